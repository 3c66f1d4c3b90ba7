/- The walk of Whole: what an object is cut into is all of it, evenly. -/
import Derived.Test.YtmfpiodlecapiaaWholeFacts
import Derived.BigQuiet
import Derived.Deep.CutRange
import Derived.Deep.QuietTactic
namespace Go.Proofs.Ytmfpiodlecapiaa
open Go.RowKit Go.Deep
attribute [local go_sem ↓] Go.wp_at_zero Go.wp_at_succ

set_option maxRecDepth 20000 in
set_option maxHeartbeats 1000000 in
theorem whole_core (id x y z : Int) (S : ByteArray) (hS : Hid (S.size ≤ maxLen)) (w0 : Hid ((Lit.int .i64 id).wf = true)) (w1 : Hid ((Lit.int .i64 x).wf = true)) (w2 : Hid ((Lit.int .i64 y).wf = true)) (w3 : Hid ((Lit.int .i64 z).wf = true))
    (I s m p n Z N M c T : Nat) (obj L : List Nat) (pI : Hid (pickN id 65536 = I)) (hI : I < 65536) (ps : Hid (1 + pickN x 16 = s)) (pm : Hid (1 + pickN y 20 = m)) (pp : Hid (pickN z 21 = p)) (h1 : 1 ≤ s) (h2 : s ≤ 16) (h3 : 1 ≤ m) (h4 : m ≤ 20) (h5 : p ≤ 20)
    (hn : Hid (n = min S.size 2000)) (hn2 : n ≤ 2000) (hobj : Hid (obj = (bytesOf S).take n)) (hmany : manyN n s m = false)
    (hL : Hid (L = Cut.sizes n s m)) (hZ : Hid (L.length = Z)) (hZ2 : Z ≤ 256) (hZ1 : 1 ≤ Z) (hc : (10 : Int) + (s : Int) = (c : Int)) (hM : Hid (M = N * s)) (hN : Hid (L.sum = N)) (hNp : Hid (N = Cut.pieces n s)) (hM2 : M ≤ 32000) (hM3 : n ≤ M) (hM4 : M ≤ n + s) (hM5 : 0 < n → M < n + s) (hM1 : 1 ≤ M) (hol : Hid (obj.length = n)) (hT : Hid (Pk.start L p L.length = T)) (hT2 : T ≤ 65536) (w : World) :
    Calls Try.prog 7 #[.int .i64 id, .string S, .int .i64 x, .int .i64 y, .int .i64 z] w fun e w' => e = .returned (.bool true) ∧ Below w.heap.size w w' := by
  obtain ⟨ib, hib, hzb0, hzb1, hzb2⟩ := info_parts Try.infoByte
  have hZb : ((Z : Int) == 0) = false := by simp; omega
  have hcN : Hid (10 + s = c) := by show 10 + s = c; omega
  have hc10 : c - 10 = s := by omega
  have hDl : Hid ((Pk.filled obj M).length = M) := Pk.filled_length (by rw [hol.out]; exact hM3)
  have F := hide (fun w => fit_walk x y z w1 w2 w3 w)
  rw [ps.out, pm.out, pp.out] at F
  have P := hide (fun w => pick_lit id 65536 65536 rfl w0.out (by omega) (by omega) w)
  rw [pI.out] at P
  have hsh := hide (fun w => short_walk S 2000 n (by omega) hS.out hn.out w)
  go_enter Try.func7, Try.ntmps7
  go_wp2_with first | (go_at_call 17; refine (sure_walk _).mono ?_; rintro _ ws ⟨rfl, hbs⟩; replace hbs := hide hbs) | (go_at_call 20; refine (F.out _).mono ?_; rintro _ wf ⟨rfl, hbf⟩; replace hbf := hide hbf) | (go_at_call 21; refine (hsh.out _).mono ?_; rintro _ wb ⟨capb, rfl, hcb, hcb2, hob, hbb⟩; replace hbb := hide hbb; replace hob := hide hob)
  have hbx := hide (rowL_alloc' wf #[.int .i64 s, .int .i64 m, .int .i64 p] 30)
  have hbxb := hbx.out.later hbb.out
  have d0 := hbxb.cell 0 _ rfl
  have d1 := hbxb.cell 1 _ rfl
  have d2 := hbxb.cell 2 _ rfl
  have HBX := hide hbxb
  clear hbxb
  have hPk := hide (fPackets_open (some ⟨wf.heap.size + 1, 0, none⟩) n capb I s m p T obj L hI hn2 h1 h2 h3 h4 h5 hmany hL.out hT.out wb.drew (by rw [hobj.out]; have h := hob.out.later (Below.refl _ _).drew; simp only [World.size_alloc] at h; exact h))
  go_cut [14, 15] from 25 to 39 (fun v e w' => ∃ gl capl cur, v = .slice (some ⟨gl, 0, none⟩) T capl ∧ e = .int .i64 0 ∧ PacketsAt w' gl T (10 + s) cur (Pk.packets I obj s m p) ∧ Below wb.heap.size wb w')
  case first =>
    go_region_with first | (go_at_call 18; refine (P.out _).mono ?_; rintro _ wq ⟨rfl, hx1⟩; have hx2 := hx1.symm; clear hx1; subst hx2) | (go_at_call 22; refine hPk.out.mono ?_; rintro _ wp ⟨gl, capl, cur, rfl, hpa, hbp⟩)
    all_goals
      go_wp2_with fail
      go_meet
      case rel => exact ⟨gl, capl, cur, rfl, rfl, hpa, (Below.refl _ _).drew.trans hbp⟩
  case rest =>
    obtain ⟨gl, capl, cur, rfl, rfl, hpa, hbc⟩ := hcut
    have hbxc := HBX.out.later hbc
    have d0' := hbxc.cell 0 _ rfl
    have d1' := hbxc.cell 1 _ rfl
    have d2' := hbxc.cell 2 _ rfl
    have HBC := hide hbc
    have HPA := hide hpa
    have HBXC := hide hbxc
    clear hbc hpa hbxc d0 d1 d2 hPk F P hsh
    have hBl := hide (fBlocks_open n s m p Z L hn2 h1 h2 h3 h4 h5 hmany hL.out hZ.out)
    go_wp2_with first | (go_at_call 23; refine (hBl.out _).mono ?_; rintro _ w6 ⟨gN, hgN, rfl, hb6, hr6⟩; have e0 := cell_later hb6 d0'; have e1 := cell_later hb6 d1'; have e2 := cell_later hb6 d2'; replace hb6 := hide hb6; replace hr6 := hide hr6) | (go_at_call 24; refine (many_walk n s m p (by omega) h1 h2 h3 h4 _).mono ?_; rintro _ w7 ⟨rfl, hb7⟩; replace hb7 := hide hb7; simp only [hmany])
    have hR7 := hide (hr6.out.later hb7.out)
    have hP7 := hide ((HPA.out.later hb6.out).later hb7.out)
    have hX7 := hide ((HBXC.out.later hb6.out).later hb7.out)
    clear d0' d1' d2' e0 e1 e2
    go_loopw [19, 20, 21] (fun at_ v x wr => ∃ k a : Nat, k ≤ Z ∧ x = .int .i64 k ∧ at_ = .int .i64 a ∧ a ≤ T ∧ Hid (a = Pk.start L p k) ∧ OwnS wr 5 v (u8s ((Pk.filled obj M).take ((L.take k).sum * s))) ∧ (∀ q, v.ownBlock = some q → w7.heap.size ≤ q) ∧ Below w7.heap.size w7 wr)
      (fun _ _ x _ => leftOf Z (intOf x).toNat)
    case atStart => exact ⟨0, 0, by omega, rfl, rfl, by omega, (show 0 = _ by simp [Pk.start]), by simpa [u8s] using ownS_nil _ _, by intro q hq; simp [Value.ownBlock] at hq, Below.refl _ _⟩
    case round =>
      obtain ⟨k, a, hk, rfl, rfl, haT, ha, hown, hfr, hbw⟩ := hrel
      have hXr := hX7.out.later hbw
      have f0 := hXr.cell 0 _ rfl
      have f1 := hXr.cell 1 _ rfl
      have f2 := hXr.cell 2 _ rfl
      clear hXr
      by_cases hkz : k < Z
      · have hkL : k < L.length := by rw [hZ.out]; exact hkz
        obtain ⟨K, hK⟩ : ∃ K, K = L[k]?.getD 0 := ⟨_, rfl⟩
        obtain ⟨K0, hK0⟩ : ∃ K, K = L[0]?.getD 0 := ⟨_, rfl⟩
        obtain ⟨Kp, hKp⟩ : ∃ K, K = L[k - 1]?.getD 0 := ⟨_, rfl⟩
        have hNr := hR7.out.later hbw
        have g1 : wr.cell? ⟨gN, k, none⟩ = some (.int .i64 K) := by rw [hK]; exact hNr.cell k _ (i64s_at hkL)
        have g2 : wr.cell? ⟨gN, 0, none⟩ = some (.int .i64 K0) := by rw [hK0]; exact hNr.cell 0 _ (i64s_at (by omega))
        have g3 : wr.cell? ⟨gN, k - 1, none⟩ = some (.int .i64 Kp) := by rw [hKp]; exact hNr.cell (k - 1) _ (i64s_at (by omega))
        clear hNr
        have hfa := Cut.sizes_facts hL.out h3 hkL
        rw [← hK, ← hK0, ← hKp] at hfa
        obtain ⟨b1, b2, b3, b4, b5⟩ := hfa
        have hst : Hid (Pk.start L p (k + 1) = a + (K + p)) := by
          show _ = _
          rw [Pk.start_succ hkL, ha.out, hK]
        have haK : a + (K + p) ≤ T := by
          rw [← hst.out, ← hT.out]
          exact Pk.start_mono _ (by omega) (Nat.le_refl _)
        have hKH := hide hK; 
        have HO := hide hown; have HF := hide hfr; have HB := hide hbw
        clear hown hfr hbw hK hK0 hKp
        have b6 : (K0 : Int) - 1 ≤ (K : Int) := by omega
        have k0 : (0 : Int) ≤ (k : Int) := by omega
        have k1 : (k : Int) < (Z : Int) := by omega
        have kZ : (0 : Int) < (Z : Int) := by omega
        have kZ0 : 0 < Z := by omega
        have q1 : decide ((K : Int) < 1) = false := decide_eq_false (by omega)
        have q2 : decide (m < K) = false := decide_eq_false (by omega)
        have q3 : decide (K0 < K) = false := decide_eq_false (by omega)
        have q4 : decide ((K : Int) < (K0 : Int) - 1) = false := decide_eq_false (by omega)
        have q5 : decide ((T : Int) < (a : Int) + (K : Int) + (p : Int)) = false := decide_eq_false (by omega)
        have v1 : IntKind.i64.wrap ((K0 : Int) - 1) = (K0 : Int) - 1 := wrap_i64_in _ (by omega) (by omega)
        have v2 : IntKind.i64.wrap ((a : Int) + (K : Int)) = (a : Int) + (K : Int) := wrap_i64_in _ (by omega) (by omega)
        have v3 : IntKind.i64.wrap ((a : Int) + (K : Int) + (p : Int)) = (a : Int) + (K : Int) + (p : Int) := wrap_i64_in _ (by omega) (by omega)
        go_upto_region 16 with fail
        go_cut [156] from 86 to 214 (fun t wx => t = .bool false ∧ ∃ nq, wx = wr.drewN nq)
        case first =>
          simp only [List.append_eq, List.cons_append, List.nil_append]
          by_cases hk0 : k = 0
          · have q6 : decide (0 < k) = false := decide_eq_false (by omega)
            clear hk0
            go_quiet (fail)
            go_wp2_with fail
            go_meet
            case rel => exact ⟨rfl, _, rfl⟩
          · have k2 : (0 : Int) ≤ (k : Int) - 1 := by omega
            have k3 : (k : Int) - 1 < (Z : Int) := by omega
            have q6 : decide (0 < k) = true := decide_eq_true (by omega)
            have q7 : decide (Kp < K) = false := decide_eq_false (by have := b5 (by omega); omega)
            have v4 : IntKind.i64.wrap ((k : Int) - 1) = (k : Int) - 1 := wrap_i64_in _ (by omega) (by omega)
            go_quiet (fail)
            go_wp2_with fail
            go_meet
            case rel => exact ⟨rfl, _, rfl⟩
        case rest =>
          obtain ⟨rfl, nq, rfl⟩ := hcut
          clear q1 q2 q3 q4 q5 v1 v2 v3 b5
          go_wp2_with fail
          go_loopw [20, 22] (fun v x wi => ∃ i : Nat, i ≤ K + p ∧ x = .int .i64 i ∧ OwnS wi 5 v (u8s ((Pk.filled obj M).take (((L.take k).sum + min i K) * s))) ∧ (∀ q, v.ownBlock = some q → w7.heap.size ≤ q) ∧ Below w7.heap.size w7 wi)
            (fun _ x _ => leftOf (K + p) (intOf x).toNat)
          case atStart => exact ⟨0, by omega, rfl, (by have h := HO.out; simp only [Nat.zero_min, Nat.add_zero]; exact h), HF.out, HB.out.trans ⟨rfl, rfl, rfl, Nat.le_refl _, fun _ _ => rfl⟩⟩
          case round =>
            obtain ⟨i, hi, rfl, howi, hfi, hbi⟩ := hrel
            have hXi := hX7.out.later hbi
            have hNi := hR7.out.later hbi
            have hPi := hP7.out.later hbi
            have i0 := hXi.cell 0 _ rfl
            have i2 := hXi.cell 2 _ rfl
            have i1 : wr.cell? ⟨gN, k, none⟩ = some (.int .i64 K) := by rw [hKH.out]; exact hNi.cell k _ (i64s_at hkL)
            have vKp : IntKind.i64.wrap ((K : Int) + (p : Int)) = (K : Int) + (p : Int) := wrap_i64_in _ (by omega) (by omega)
            by_cases hil : i < K + p
            · have hpkt := packet_of (I := I) hol.out hL.out M (by rw [hM.out, hNp.out]) hkL (i := i) (by rw [← hKH.out]; exact hil)
              rw [← ha.out, ← hKH.out] at hpkt
              obtain ⟨g, hcur, hrg⟩ := hPi.at_ (a + i) _ hpkt
              have hlc : wr.cell? ⟨gl, a + i, none⟩ = some (.slice (some ⟨g, 0, none⟩) c c) := by
                have h := hPi.row.cell (a + i) _ hcur
                unfold packV at h
                rw [hcN.out] at h; exact h
              have r8 := hrg.cell 8 _ (packet_8 _ _ _ _ _ _ _ _)
              have r9 := hrg.cell 9 _ (packet_9 _ _ _ _ _ _ _ _)
              have hnews : Hid (∀ j u, (u8s (Pk.pieceN (Pk.blkAt (Pk.filled obj M) L s k) s K i))[j]? = some u → wr.cell? ((⟨g, 10, none⟩ : Addr).add j) = some u) := by
                intro j u hju
                rw [Addr.add_lit]
                apply hrg.cell
                rw [packet_tail]; exact hju
              have hnl : Hid ((u8s (Pk.pieceN (Pk.blkAt (Pk.filled obj M) L s k) s K i)).length = s) := by
                show _ = _
                rw [u8s_length]
                exact Pk.pieceN_length (by rw [blk_length hkL hN.out hM.out hDl.out, hKH.out])
              have hno : Hid (∀ u ∈ u8s (Pk.pieceN (Pk.blkAt (Pk.filled obj M) L s k) s K i), u.oneCell' = true) := by
                intro u hu; obtain ⟨x, _, rfl⟩ := List.mem_map.1 hu; rfl
              have hpc : Hid (i < K → u8s ((Pk.filled obj M).take (((L.take k).sum + i) * s)) ++ u8s (Pk.pieceN (Pk.blkAt (Pk.filled obj M) L s k) s K i) = u8s ((Pk.filled obj M).take (((L.take k).sum + (i + 1)) * s))) := by
                intro hiK
                unfold Pk.pieceN
                rw [if_pos hiK, piece_of _ _ _ _ _ (by rw [← hKH.out]; exact hiK), ← u8s_append, take_more]; rfl
              have hxl : Hid ((u8s ((Pk.filled obj M).take (((L.take k).sum + min i K) * s))).length ≤ 32000) := by
                show _ ≤ _
                rw [u8s_length, List.length_take, hDl.out]; omega
              revert hnews hnl hno hpc
              generalize u8s (Pk.pieceN (Pk.blkAt (Pk.filled obj M) L s k) s K i) = news
              intro hnews hnl hno hpc
              have ht : (i : Int) < (K : Int) + (p : Int) := by omega
              have x0 : (0 : Int) ≤ (a : Int) + (i : Int) := by omega
              have x1 : (a : Int) + (i : Int) < (T : Int) := by omega
              have c8 : (8 : Int) < (c : Int) := by omega
              have c9 : (9 : Int) < (c : Int) := by omega
              have vk : IntKind.i64.wrap (k : Int) = (k : Int) := wrap_i64_in _ (by omega) (by omega)
              have vi : IntKind.i64.wrap (i : Int) = (i : Int) := wrap_i64_in _ (by omega) (by omega)
              have HOi := hide howi; have HFi := hide hfi; have HBi := hide hbi
              clear howi hfi hbi hXi hNi hPi hpkt hcur hrg
              by_cases hiK : i < K
              · go_wp2_with fail
                go_quiet (fail)
                go_wp2_with (at_builtin; refine wpList_app _ rfl _ _ 36 rfl 5 ib (.int .u8 0) 1 Try.underlying36 hib hzb0 hzb1 hzb2 rfl _ _ rfl HOi.out ⟨g, 10, none⟩ s s news rfl hnl.out hnews.out hno.out (by have := hxl.out; unfold maxLen; omega) (by have := hxl.out; omega) ?_)
                intro v' w9 happ
                have HA := hide happ
                clear happ
                go_wp2_with fail
                go_roundw
                case rel =>
                  have hsz := HBi.out.size
                  have hbq : Below w7.heap.size w7 (wr.drewN nq) := HBi.out.trans ⟨rfl, rfl, rfl, Nat.le_refl _, fun _ _ => rfl⟩
                  refine ⟨i + 1, by omega, by go_num, ?_, HA.out.from hsz HFi.out, HA.out.below hbq hsz HFi.out⟩
                  have h := HA.out.own
                  have e : min i K = i := by omega
                  have e2 : min (i + 1) K = i + 1 := by omega
                  rw [e, hpc.out hiK] at h
                  rw [e2]; exact h
                case measure => refine leftOf_lt ?_ ?_ <;> simp only [intOf] <;> omega
              · go_wp2_with fail
                go_quiet (fail)
                go_wp2_with fail
                go_roundw
                case rel =>
                  refine ⟨i + 1, by omega, by go_num, ?_, HFi.out, HBi.out.trans ⟨rfl, rfl, rfl, Nat.le_refl _, fun _ _ => rfl⟩⟩
                  have h := HOi.out
                  have e : min (i + 1) K = min i K := by omega
                  rw [e]; exact h
                case measure => refine leftOf_lt ?_ ?_ <;> simp only [intOf] <;> omega
            · have ei : i = K + p := by omega
              have ht : ¬ (i : Int) < (K : Int) + (p : Int) := by omega
              have HOi := hide howi; have HFi := hide hfi; have HBi := hide hbi
              have v2 : IntKind.i64.wrap ((a : Int) + (K : Int)) = (a : Int) + (K : Int) := wrap_i64_in _ (by omega) (by omega)
              have v3 : IntKind.i64.wrap ((a : Int) + (K : Int) + (p : Int)) = (a : Int) + (K : Int) + (p : Int) := wrap_i64_in _ (by omega) (by omega)
              have EI := hide ei
              have hss : Hid ((L.take (k + 1)).sum = (L.take k).sum + K) := by
                show _ = _
                rw [sum_take_succ (getD_some hkL), hKH.out]
              clear howi hfi hbi hXi hNi hPi ei
              go_wp2_with fail
              go_quiet (fail)
              go_wp2_with fail
              go_quiet (fail)
              go_wp2_with fail
              go_roundw
              case rel =>
                refine ⟨k + 1, a + (K + p), by omega, by go_num, by go_num, haK, ?_, ?_, HFi.out, HBi.out.trans ⟨rfl, rfl, rfl, Nat.le_refl _, fun _ _ => rfl⟩⟩
                · show a + (K + p) = _; rw [hst.out]
                · have h := HOi.out
                  have e : min i K = K := by have := EI.out; omega
                  rw [e, ← hss.out] at h
                  exact h
              case measure => refine leftOf_lt ?_ ?_ <;> simp only [intOf] <;> omega
      · have ek : k = Z := by omega
        have eD : (Pk.filled obj M).take ((L.take k).sum * s) = Pk.filled obj M := by
          rw [ek, ← hZ.out, List.take_length, hN.out, ← hM.out]
          exact List.take_of_length_le (by rw [hDl.out]; omega)
        rw [eD] at hown
        have hlen : (u8s (Pk.filled obj M)).length = M := by rw [u8s_length, hDl.out]
        obtain ⟨gA, capA, curA, hvA, hrA, hA1, hA2, hA3, hA4⟩ := hown.open' (by omega)
        rw [hlen] at hvA hA1 hA4
        subst hvA
        have eT : a = T := by rw [ha.out, ek, ← hT.out, hZ.out]
        subst eT
        have hcA : Hid (∀ j, n ≤ j → j < M → wr.cell? ⟨gA, j, none⟩ = some (.int .u8 0)) := by
          intro j h1 h2
          apply hrA.cell
          have h3 : (u8s (Pk.filled obj M))[j]? = some (.int .u8 0) := by
            simp [u8s, filled_tail (M := M) (by rw [hol.out]; exact h1) h2]
          exact take_at (by rw [hlen]; exact hA4) h3
        have hcv1 : Hid (∀ nq, (convert 36 9 (.slice (some ⟨gA, 0, none⟩) n capA)).run Try.prog (wr.drewN nq) = .ok (.string (strOf obj)) (wr.drewN nq)) := by
          intro nq
          refine conv_str (hrA.drewN nq) hol.out ?_
          intro j hj
          rw [Nat.zero_add]
          have h3 : (u8s (Pk.filled obj M))[j]? = some (.int .u8 ((obj[j]?.getD 0 : Nat) : Int)) := by
            have h4 : (Pk.filled obj M)[j]? = some (obj[j]?.getD 0) := by rw [filled_head (by rw [hol.out]; exact hj)]; exact getD_some (by rw [hol.out]; exact hj)
            simp [u8s, h4]
          exact take_at (by rw [hlen]; exact hA4) h3
        have hcv2 : Hid (∀ nq, (convert 36 9 (.slice (some ⟨wf.heap.size + 1, 0, none⟩) n capb)).run Try.prog (wr.drewN nq) = .ok (.string (strOf obj)) (wr.drewN nq)) := by
          intro nq
          have h := hob.out
          simp only [World.size_alloc] at h
          rw [← hobj.out] at h
          exact conv_obj (((((h.later HBC.out).later hb6.out).later hb7.out).later hbw).later ⟨rfl, rfl, rfl, Nat.le_refl _, fun _ _ => rfl⟩)
        have HB := hide hbw
        have kz : ¬ (k : Int) < (Z : Int) := by omega
        have hA1' : (n : Int) ≤ (capA : Int) := by omega
        have n0 : (0 : Int) ≤ (n : Int) := by omega
        clear hown hfr hbw hrA hA1 hA2 hA3 hA4 eD hlen
        by_cases hn0 : 0 < n
        · have hM6 := hM5 hn0
          go_wp2_with fail
          go_loop [24] (fun x => ∃ j : Nat, n ≤ j ∧ j ≤ M ∧ x = .int .i64 j) (fun x => leftOf M (intOf x).toNat)
          case atStart => exact ⟨n, Nat.le_refl _, hM3, rfl⟩
          case round =>
            obtain ⟨j, hj1, hj2, rfl⟩ := hrel
            by_cases hj : j < M
            · have hcj := hcA.out j hj1 hj
              go_wp2_with fail
              go_round
              case rel => exact ⟨j + 1, by omega, by omega, by go_num⟩
              case measure => refine leftOf_lt ?_ ?_ <;> simp only [intOf] <;> omega
            · have cv1 := hcv1.out
              have cv2 := hcv2.out
              have cz1 := hcv1.out 0
              have cz2 := hcv2.out 0
              go_wp2_with fail
              go_quiet (fail)
              go_wp2_with fail
              go_ret
              refine ⟨?_, ?_⟩
              · first | rfl | (show Ending.returned (.bool ((strOf obj).toList == (strOf obj).toList)) = _; simp)
              · have z1 := hbs.out.trans (hbf.out.mono hbs.out.size)
                have s1 := z1.size
                have z2 := (z1.alloc s1 (.cells #[.int .i64 s, .int .i64 m, .int .i64 p] 30)).trans (hbb.out.mono (by simp; omega))
                have s2 := z2.size
                have z3 := z2.trans (HBC.out.mono s2)
                have s3 := z3.size
                have z4 := z3.trans (hb6.out.mono s3)
                have s4 := z4.size
                have z5 := z4.trans (hb7.out.mono s4)
                exact (z5.trans (HB.out.mono z5.size)).trans ⟨rfl, rfl, rfl, Nat.le_refl _, fun _ _ => rfl⟩
        · clear hM5
          go_wp2_with fail
          go_loop [24] (fun x => ∃ j : Nat, n ≤ j ∧ j ≤ M ∧ x = .int .i64 j) (fun x => leftOf M (intOf x).toNat)
          case atStart => exact ⟨n, Nat.le_refl _, hM3, rfl⟩
          case round =>
            obtain ⟨j, hj1, hj2, rfl⟩ := hrel
            by_cases hj : j < M
            · have hcj := hcA.out j hj1 hj
              go_wp2_with fail
              go_round
              case rel => exact ⟨j + 1, by omega, by omega, by go_num⟩
              case measure => refine leftOf_lt ?_ ?_ <;> simp only [intOf] <;> omega
            · have cv1 := hcv1.out
              have cv2 := hcv2.out
              have cz1 := hcv1.out 0
              have cz2 := hcv2.out 0
              go_wp2_with fail
              go_quiet (fail)
              go_wp2_with fail
              go_ret
              refine ⟨?_, ?_⟩
              · first | rfl | (show Ending.returned (.bool ((strOf obj).toList == (strOf obj).toList)) = _; simp)
              · have z1 := hbs.out.trans (hbf.out.mono hbs.out.size)
                have s1 := z1.size
                have z2 := (z1.alloc s1 (.cells #[.int .i64 s, .int .i64 m, .int .i64 p] 30)).trans (hbb.out.mono (by simp; omega))
                have s2 := z2.size
                have z3 := z2.trans (HBC.out.mono s2)
                have s3 := z3.size
                have z4 := z3.trans (hb6.out.mono s3)
                have s4 := z4.size
                have z5 := z4.trans (hb7.out.mono s4)
                exact (z5.trans (HB.out.mono z5.size)).trans ⟨rfl, rfl, rfl, Nat.le_refl _, fun _ _ => rfl⟩
end Go.Proofs.Ytmfpiodlecapiaa
