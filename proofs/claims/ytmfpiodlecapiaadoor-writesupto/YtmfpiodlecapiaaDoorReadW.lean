/- Package letters: Read of any text. -/
import Derived.Test.YtmfpiodlecapiaaDoorLettersR
import Derived.Test.YtmfpiodlecapiaaDoorDecode
namespace Go.Proofs.YtmfpiodlecapiaaDoor
open Go.RowKit Go.Deep

theorem OwnS.iterAt {w : World} {k pos : Nat} {s : ByteArray} {e : TypeId} {v : Value} {xs : List Value} (h : OwnS w e v xs) (hk : ∀ g, v.ownBlock = some g → k < g) : OwnS (w.iterAt k s pos) e v xs :=
  h.of_block (fun g hg => Lib.iterAt_other w k g s pos (by have := hk g hg; omega))
set_option maxRecDepth 20000 in
set_option maxHeartbeats 2000000 in
theorem read_walk (s : ByteArray) (N : Nat) (hN : Hid (s.size = N)) (hN2 : N ≤ 100000000) (w : World) (ha : Alpha w) :
    Calls Tryd.prog 23 #[.string s] w fun e w' =>
      ((∃ l v, Tx.readText (bytesOf s) = some l ∧ e = .returned v ∧ OwnS w' 5 v (u8s l) ∧ (∀ k, v.ownBlock = some k → w.heap.size < k)) ∨ (Tx.readText (bytesOf s) = none ∧ e = .panicked [{ v := faultV 3, recovered := false }])) ∧ Below w.heap.size w w' := by
  obtain ⟨i0, hi, hz0, hz1, hz2⟩ := info_parts Tryd.infoByte
  have HA := hide ha
  have HS := hide ha.size
  clear ha
  have HBL : Hid ((bytesOf s).length = N) := by show _ = _; rw [bytesOf_length]; exact hN.out
  go_enter Tryd.func23, Tryd.ntmps23
  go_wp2_with fail
  go_loopw [3, 4, 5] (fun v x y wr => ∃ (pos c m X : Nat) (t : List Nat), wr.heap[w.heap.size]? = some (.stringIter s pos) ∧ Tx.Upto (bytesOf s) t pos ∧ pos ≤ N ∧ t.length ≤ pos ∧ c = 6 * t.length % 8 ∧ m = 6 * t.length / 8 ∧ Hid (X = Tx.val (Tx.bit6 t) (8 * m) c) ∧ x = .int .i64 X ∧ y = .int .i64 c ∧
      OwnS wr 5 v (u8s (Tx.bytesN t)) ∧ (∀ k, v.ownBlock = some k → w.heap.size < k) ∧ Below w.heap.size w wr)
    (fun _ _ _ wr => N - wr.iterPos w.heap.size)
  case atStart =>
    refine ⟨0, 0, 0, 0, [], ?_, Tx.upto_zero _, by omega, by simp, rfl, rfl, rfl, rfl, rfl, ownS_nil _ _, fun k hk => by simp [Value.ownBlock] at hk, (Below.refl _ w).alloc (Nat.le_refl _) _⟩
    have := World.iter_heap w s 0
    simpa using this
  case round =>
    obtain ⟨pos, c, m, X, t, hit, hup, hpN, htp, hcc, hmm, hX, rfl, rfl, hown, hvb, hbw⟩ := hrel
    by_cases hp : pos < s.size
    · have hpN' : pos < N := by rw [← hN.out]; exact hp
      have hpl : pos < (bytesOf s).length := by rw [HBL.out]; exact hpN'
      have hit2 := Lib.iterAt_heap wr w.heap.size s pos (pos + (Utf8.decode s pos).2) hit
      have own1 := hown.iterAt (s := s) (pos := pos + (Utf8.decode s pos).2) hvb
      have bw1 := Lib.below_iterAt hbw (Nat.le_refl _) s (pos + (Utf8.decode s pos).2)
      have hsz1 : (wr.iterAt w.heap.size s (pos + (Utf8.decode s pos).2)).heap.size = wr.heap.size := Lib.iterAt_size _ _ _ _
      have al1 := HA.out.below bw1 HS.out
      have hnx : ∀ ty, (Instr.next (.pointer (some ⟨w.heap.size, 0, none⟩)) true ty).run Tryd.prog wr = _ := fun ty => Lib.run_next_any_at wr w.heap.size s pos ty hit hp
      have hdn := decode_num s pos hp
      have hmeas : Hid (∀ w2 : World, (∃ q, pos < q ∧ w2.heap[w.heap.size]? = some (.stringIter s q)) → N - w2.iterPos w.heap.size < N - wr.iterPos w.heap.size) := by
        rintro w2 ⟨q, hq, h2⟩
        simp only [World.iterPos, hit, h2]
        omega
      generalize (Utf8.decode s pos).1 = R at hnx hdn
      generalize (Utf8.decode s pos).2 = D at hnx hdn hit2 own1 bw1 al1 hsz1
      generalize wr.iterAt w.heap.size s (pos + D) = w1 at hnx hit2 own1 bw1 al1 hsz1
      have HI := hide hit2; have HO := hide own1; have HB := hide bw1; have HL := hide al1; have HU := hide hup; have HV := hide hvb
      have HWS : Hid (w.heap.size < w1.heap.size) := by
        show _ < _
        exact (Array.getElem?_eq_some_iff.1 hit2).1
      clear hit2 own1 bw1 al1 hsz1 hit hown hbw hup hvb
      rcases hdn with ⟨hn, hR, hD⟩ | ⟨n, hn64, hn, hR, hD⟩ | ⟨hn, hR1, hR2, hR⟩
      · have HI2 : Hid (w1.heap[w.heap.size]? = some (.stringIter s (pos + 1))) := by rw [← hD]; exact HI.out
        clear HI hD
        have HU2 := hide (HU.out.blank hpl hn)
        clear HU hn
        rcases hR with rfl | rfl
        · go_wp2_with fail
          go_roundw
          case rel => exact ⟨pos + 1, c, m, X, t, HI2.out, HU2.out, by omega, by omega, hcc, hmm, hX.out, rfl, rfl, HO.out, HV.out, HB.out⟩
          case measure => exact hmeas.out _ ⟨pos + 1, by omega, HI2.out⟩
        · go_wp2_with fail
          go_roundw
          case rel => exact ⟨pos + 1, c, m, X, t, HI2.out, HU2.out, by omega, by omega, hcc, hmm, hX.out, rfl, rfl, HO.out, HV.out, HB.out⟩
          case measure => exact hmeas.out _ ⟨pos + 1, by omega, HI2.out⟩
      · have hsz := Tx.sizeAt_le (bytesOf s) pos hpl
        have hsp := Tx.sizeAt_pos (bytesOf s) pos
        rw [HBL.out] at hsz
        rw [← hD] at hsz hsp
        have HU2 := hide (HU.out.letter hpl hn)
        rw [← hD] at HU2
        clear HU hn hD
        subst hR
        have hrr := rn_range hn64
        have NO := hide (number_ok n hn64 w1 HL.out)
        have hst := Tx.val_step (t := t) hn64
        rw [← hmm, ← hcc, ← hX.out] at hst
        have hXl : X < 256 := by rw [hX.out]; exact Nat.lt_of_lt_of_le (Tx.val_lt (Tx.bit6_lt t) _ c) (Nat.pow_le_pow_right (by decide) (by omega : c ≤ 8))
        have hor : bits .or .i64 ((X : Int) * 64) (n : Int) = ((X * 64 + n : Nat) : Int) := by
          have h1 := i64_or (X * 64) n (by omega) (by omega)
          rw [or_low X (k := 6) hn64] at h1
          rw [show ((X * 64 : Nat) : Int) = (X : Int) * 64 by omega] at h1
          exact h1
        obtain ⟨Y, hY⟩ : ∃ Y, Y = X * 64 + n := ⟨_, rfl⟩
        have hYl : Y < 16448 := by omega
        rw [← hY] at hst hor
        clear hY
        have HST := hide hst
        have hlen : Hid ((t ++ [n]).length = t.length + 1) := by show _ = _; simp
        clear hst
        generalize (Tx.rn n : Nat) = r at NO hrr hnx
        have e32 : ((r : Int) == 32) = false := by simp; omega
        have e10 : ((r : Int) == 10) = false := by simp; omega
        by_cases h8 : 8 ≤ c + 6
        · obtain ⟨q, hq⟩ : ∃ q, c + 6 = 8 + q := ⟨c + 6 - 8, by omega⟩
          have hq5 : q ≤ 5 := by omega
          have k8 : (8 : Int) ≤ (c : Int) + 6 := by omega
          have hsub : (c : Int) + 6 - 8 = (q : Int) := by omega
          have hq0 : (0 : Int) ≤ (q : Int) := by omega
          have HV8 : Hid (Y / 2 ^ q = Tx.val (Tx.bit6 (t ++ [n])) (8 * m) 8) := by show _ = _; rw [← HST.out, hq, Tx.val_div (Tx.bit6_lt _)]
          have HM8 : Hid (Y % 2 ^ q = Tx.val (Tx.bit6 (t ++ [n])) (8 * m + 8) q) := by show _ = _; rw [← HST.out, hq, Tx.val_mod (Tx.bit6_lt _)]
          obtain ⟨V, hV⟩ : ∃ V, V = Y / 2 ^ q := ⟨_, rfl⟩
          have hVl : V < 256 := by rw [hV, HV8.out]; exact Tx.val_lt (Tx.bit6_lt _) _ 8
          have hdiv : (Y : Int) / 2 ^ q = (V : Int) := by rw [hV]; simp
          rw [← hV] at HV8
          clear hV
          have u8 := wrap_u8_in (V : Int) (by omega) (by omega)
          have LW := hide (lowest_walk Y q (by omega) (by omega))
          obtain ⟨X', hX'⟩ : ∃ X', X' = Y % 2 ^ q := ⟨_, rfl⟩
          rw [← hX'] at LW HM8
          clear hX'
          obtain ⟨av, cv, hsh⟩ := HO.out.shape
          rw [u8s_length, Tx.bytesN_length, ← hmm] at hsh
          subst hsh
          have hml : Hid ((u8s (Tx.bytesN t)).length = m) := by show _ = _; rw [u8s_length, Tx.bytesN_length, hmm]
          have hm2 : m ≤ 100000000 := by omega
          have HCC : Hid (c = 6 * t.length % 8) := hcc
          have HMM : Hid (m = 6 * t.length / 8) := hmm
          have HQ : Hid (c + 6 = 8 + q) := hq
          clear hcc hmm hq
          go_wp2_with (first | (go_at_call 33; refine NO.out.mono ?_; rintro _ wq ⟨rfl, hq⟩; have hq2 := hq.symm; clear hq; subst hq2) | (at_builtin; (refine wpList_app _ rfl (.tmp 30) (.tmp 35) 27 rfl 5 i0 (.int .u8 0) 1 Tryd.underlying27 hi hz0 hz1 hz2 rfl _ (u8s (Tx.bytesN t)) rfl (HO.out.alloc _) ⟨w1.heap.size, 0, none⟩ 1 1 [.int .u8 (V : Nat)] rfl rfl (news_at _ _ _ _ rfl) (by intro u hu; simp at hu; subst hu; rfl) (by rw [hml.out]; unfold maxLen; omega) (by rw [hml.out]; omega) ?_)))
          intro v' w2 happ
          replace happ := hide happ
          go_wp2_with (go_at_call 31; refine (LW.out _).mono ?_; rintro _ wq ⟨rfl, hq⟩; have hq2 := hq.symm; clear hq; subst hq2)
          have HI3 : Hid (w2.heap[w.heap.size]? = some (.stringIter s (pos + D))) := by
            show _ = _
            have hg := happ.out.grown.block w.heap.size (by have := HWS.out; simp; omega) (fun e => by have := HV.out _ e.symm; omega)
            rw [hg, blk_alloc_lt _ _ _ HWS.out]
            exact HI.out
          go_roundw
          case rel =>
            have hcc := HCC.out; have hmm := HMM.out; have hq := HQ.out
            refine ⟨pos + D, q, m + 1, X', t ++ [n], HI3.out, HU2.out, by omega, by rw [hlen.out]; omega, by rw [hlen.out]; omega, by rw [hlen.out]; omega, ?_, rfl, rfl, ?_, ?_, ?_⟩
            · show _ = _
              rw [HM8.out]; rfl
            · rw [Tx.bytesN_snoc_more (by omega), u8s_append, ← hmm, ← HV8.out]
              exact happ.out.own
            · intro k hk
              exact happ.out.from (B := w.heap.size + 1) (by have := HWS.out; simp; omega) (fun k hk => HV.out k hk) k hk
            · exact happ.out.below (HB.out.alloc (Nat.le_of_lt HWS.out) _) (by have := HWS.out; simp; omega) (fun k hk => Nat.le_of_lt (HV.out k hk))
          case measure => exact hmeas.out _ ⟨pos + D, by omega, HI3.out⟩
        · have k8 : ¬ (8 : Int) ≤ (c : Int) + 6 := by omega
          have HCC : Hid (c = 6 * t.length % 8) := hcc
          have HMM : Hid (m = 6 * t.length / 8) := hmm
          clear hcc hmm
          go_wp2_with (go_at_call 33; refine NO.out.mono ?_; rintro _ wq ⟨rfl, hq⟩; have hq2 := hq.symm; clear hq; subst hq2)
          go_roundw
          case rel =>
            have hcc := HCC.out; have hmm := HMM.out
            refine ⟨pos + D, c + 6, m, Y, t ++ [n], HI.out, HU2.out, by omega, by rw [hlen.out]; omega, by rw [hlen.out]; omega, by rw [hlen.out]; omega, HST.out.symm, rfl, by go_num, ?_, HV.out, HB.out⟩
            rw [Tx.bytesN_snoc_same (by omega)]
            exact HO.out
          case measure => exact hmeas.out _ ⟨pos + D, by omega, HI.out⟩
      · have e32 : ((R : Int) == 32) = false := by simp; omega
        have e10 : ((R : Int) == 10) = false := by simp; omega
        have NO := hide (number_no R hR w1 HL.out)
        have HN := hide (HU.out.none hpl hn)
        clear hR1 hR2 hR hn
        go_wp2_with (go_at_call 33; refine NO.out.mono ?_; rintro _ wq ⟨rfl, hq⟩; have hq2 := hq.symm; clear hq; subst hq2)
        refine ⟨rfl, Or.inr ⟨?_, rfl⟩, HB.out⟩
        unfold Tx.readText
        rw [HN.out]; rfl
    · have hpe : ¬ pos < (bytesOf s).length := by rw [HBL.out, ← hN.out]; exact hp
      have HN := hide (hup.ends hpe)
      have hnx : ∀ ty, (Instr.next (.pointer (some ⟨w.heap.size, 0, none⟩)) true ty).run Tryd.prog wr = _ := fun ty => Lib.run_next_end_at wr w.heap.size s pos ty hit hp
      have HO := hide hown; have HB := hide hbw; have HV := hide hvb
      clear hown hbw hvb hup hit hpe
      by_cases hok : Tx.restOk t
      · have hok1 := hok.1
        have hok2 := hok.2
        rw [← hmm, ← hcc, ← hX.out] at hok2
        rw [← hcc] at hok1
        subst hok2
        have k6 : (c : Int) < 6 := by omega
        have HOK := hide hok
        clear hok hok1 hcc hmm
        go_wp2_with (go_at_call 34; refine (unless_ok _ _).mono ?_; rintro _ wq ⟨rfl, hq⟩; have hq2 := hq.symm; clear hq; subst hq2)
        go_ret
        refine ⟨Or.inl ⟨Tx.bytesN t, _, ?_, rfl, HO.out, HV.out⟩, HB.out⟩
        unfold Tx.readText
        rw [HN.out]
        show (if Tx.restOk t then _ else _) = _
        rw [if_pos HOK.out]
      · have hrt : Hid (Tx.readText (bytesOf s) = none) := by
          show _ = _
          unfold Tx.readText
          rw [HN.out]
          show (if Tx.restOk t then _ else _) = _
          rw [if_neg hok]
        by_cases h6 : c < 6
        · have hX0 : X ≠ 0 := fun e => hok ⟨by rw [← hcc]; exact h6, by rw [← hmm, ← hcc, ← hX.out]; exact e⟩
          have k6 : (c : Int) < 6 := by omega
          have k0 : ((X : Int) == 0) = false := by simp; omega
          clear hok hcc hmm hX0
          go_wp2_with (go_at_call 34; refine (unless_no _ _).mono ?_; rintro _ wq ⟨rfl, hq⟩; have hq2 := hq.symm; clear hq; subst hq2)
          exact ⟨rfl, Or.inr ⟨hrt.out, rfl⟩, HB.out⟩
        · have k6 : ¬ (c : Int) < 6 := by omega
          clear hok hcc hmm
          go_wp2_with (go_at_call 34; refine (unless_no _ _).mono ?_; rintro _ wq ⟨rfl, hq⟩; have hq2 := hq.symm; clear hq; subst hq2)
          exact ⟨rfl, Or.inr ⟨hrt.out, rfl⟩, HB.out⟩
end Go.Proofs.YtmfpiodlecapiaaDoor
