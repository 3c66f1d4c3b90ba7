/- The walk of Adds: pieces of two objects add up to those of their sum. -/
import Derived.Test.YtmfpiodlecapiaaAddedWalk
import Derived.BigQuiet
import Derived.Deep.CutRange
import Derived.Deep.QuietTactic
namespace Go.Proofs.Ytmfpiodlecapiaa
open Go.RowKit Go.Deep
attribute [local go_sem ↓] Go.wp_at_zero Go.wp_at_succ

theorem ObjAt.short {w : World} {ao : Option Addr} {n m : Nat} {obj : List Nat} (h : ObjAt w ao n obj) (hm : m ≤ n) : ObjAt w ao m (obj.take m) := by
  refine ⟨by rw [List.length_take, h.1]; omega, fun x hx => h.2.1 x (List.mem_of_mem_take hx), fun h0 => ?_⟩
  obtain ⟨b, off, e, hc⟩ := h.2.2 (by omega)
  refine ⟨b, off, e, fun j hj => ?_⟩
  rw [hc j (by omega), List.getElem?_take, if_pos hj]
theorem OwnS.obj {w : World} {v : Value} {bs : List Nat} (h : OwnS w 5 v (u8s bs)) (hb : ∀ x ∈ bs, x < 256) : ∃ ao cap, v = .slice ao bs.length cap ∧ ObjAt w ao bs.length bs := by
  rcases h with ⟨rfl, h0⟩ | ⟨g, cap, cur, rfl, hr, h1, h2, h3, h4⟩
  · have e : bs = [] := by simpa [u8s] using h0
    subst e
    exact ⟨none, 0, rfl, rfl, hb, fun h => by simp at h⟩
  · refine ⟨some ⟨g, 0, none⟩, cap, by rw [u8s_length], rfl, hb, fun _ => ⟨g, 0, rfl, fun j hj => ?_⟩⟩
    rw [Nat.zero_add]
    exact hr.cell _ _ (take_at h4 (u8s_at hj))
theorem ObjAt.cells {w : World} {b off n : Nat} {obj : List Nat} (h : ObjAt w (some ⟨b, off, none⟩) n obj) : ∀ j, j < n → w.cell? ⟨b, off + j, none⟩ = some (.int .u8 ((obj[j]?.getD 0 : Nat) : Int)) := by
  intro j hj
  obtain ⟨b', off', e, hc⟩ := h.2.2 (by omega)
  injection e with e
  injection e with e1 e2
  subst e1 e2
  exact hc j hj

set_option maxRecDepth 20000 in
set_option maxHeartbeats 1000000 in
theorem adds_core (S1 S2 : ByteArray) (x y z : Int) (hS1 : Hid (S1.size ≤ maxLen)) (hS2 : Hid (S2.size ≤ maxLen)) (w1 : Hid ((Lit.int .i64 x).wf = true)) (w2 : Hid ((Lit.int .i64 y).wf = true)) (w3 : Hid ((Lit.int .i64 z).wf = true))
    (s m p na n c T M : Nat) (A B L : List Nat) (ps : Hid (1 + pickN x 16 = s)) (pm : Hid (1 + pickN y 20 = m)) (pp : Hid (pickN z 21 = p)) (h1 : 1 ≤ s) (h2 : s ≤ 16) (h3 : 1 ≤ m) (h4 : m ≤ 20) (h5 : p ≤ 20)
    (hna : Hid (na = min S1.size 500)) (hn : Hid (n = min S2.size na)) (hna2 : na ≤ 500) (hn2 : n ≤ na) (hA : Hid (A = (bytesOf S1).take n)) (hB : Hid (B = (bytesOf S2).take n)) (hAn : Hid (A.length = n)) (hBn : Hid (B.length = n)) (hAl : Hid (∀ x ∈ A, x < 256)) (hBl : Hid (∀ x ∈ B, x < 256)) (hmany : manyN n s m = false)
    (hL : Hid (L = Cut.sizes n s m)) (hM : Hid (M = Cut.pieces n s * s)) (hc : (10 : Int) + (s : Int) = (c : Int)) (hT : Hid (Pk.start L p L.length = T)) (hT1 : 1 ≤ T) (hT2 : T ≤ 65536) (w : World) :
    Calls Try.prog 8 #[.string S1, .string S2, .int .i64 x, .int .i64 y, .int .i64 z] w fun e w' => e = .returned (.bool true) ∧ Below w.heap.size w w' := by
  have F := hide (fun w => fit_walk x y z w1 w2 w3 w)
  rw [ps.out, pm.out, pp.out] at F
  have hsh1 := hide (fun w => short_walk S1 500 na (by omega) hS1.out hna.out w)
  have hsh2 := hide (fun w => short_walk S2 na n (by omega) hS2.out hn.out w)
  have PK : Hid (∀ (ao : Option Addr) (cap : Nat) (obj : List Nat) (w : World), ObjAt w ao n obj → Calls Try.prog 22 #[.int .i64 1, .slice ao n cap, .agg #[.int .i64 s, .int .i64 m, .int .i64 p]] w fun e w' =>
      ∃ gl cap cur, e = .returned (.tuple #[.slice (some ⟨gl, 0, none⟩) T cap, .int .i64 0]) ∧ PacketsAt w' gl T (10 + s) cur (Pk.packets 1 obj s m p) ∧ Below w.heap.size w w') :=
    fun ao cap obj w ho => fPackets_open ao n cap 1 s m p T obj L (by omega) (by omega) h1 h2 h3 h4 h5 hmany hL.out hT.out w ho
  have hTb : ((T : Int) == 0) = false := by simp; omega
  go_enter Try.func8, Try.ntmps8
  go_wp2_with first | (go_at_call 17; refine (sure_walk _).mono ?_; rintro _ ws ⟨rfl, hbs⟩; replace hbs := hide hbs) | (go_at_call 20; refine (F.out _).mono ?_; rintro _ wf ⟨rfl, hbf⟩; replace hbf := hide hbf)
  refine (hsh1.out _).mono ?_
  rintro _ wa ⟨capa, rfl, hca, hca2, hoa, hba⟩
  replace hba := hide hba; replace hoa := hide hoa
  go_wp2_with fail
  refine (hsh2.out _).mono ?_
  rintro _ wb ⟨capb, rfl, hcb, hcb2, hob, hbb⟩
  have hbx := hide (rowL_alloc' wf #[.int .i64 s, .int .i64 m, .int .i64 p] 30)
  have hbxb := (hbx.out.later hba.out).later hbb
  have d0 := hbxb.cell 0 _ rfl
  have d1 := hbxb.cell 1 _ rfl
  have d2 := hbxb.cell 2 _ rfl
  have HBX := hide hbxb
  have hoa2 := (hoa.out.later hbb).short hn2
  rw [List.take_take, Nat.min_eq_left hn2, ← hA.out] at hoa2
  rw [← hB.out] at hob
  simp only [World.size_alloc] at hoa2
  have HOA := hide hoa2; have HOB := hide hob; have HBB := hide hbb
  clear hbxb hoa2 hob hbb
  have hcn : (n : Int) ≤ (capa : Int) := by omega
  go_wp2_with fail
  refine (PK.out _ _ A _ HOA.out).mono ?_
  rintro _ wx ⟨gx, capx, curx, rfl, hpx, hbx2⟩
  have f0 := cell_later hbx2 d0
  have f1 := cell_later hbx2 d1
  have f2 := cell_later hbx2 d2
  have HPX := hide hpx; have HBX2 := hide hbx2
  clear hpx hbx2 d0 d1 d2
  go_wp2_with fail
  refine (PK.out _ _ B _ (HOB.out.later HBX2.out)).mono ?_
  rintro _ wy ⟨gy, capy, cury, rfl, hpy, hby2⟩
  have g0 := cell_later hby2 f0
  have g1 := cell_later hby2 f1
  have g2 := cell_later hby2 f2
  have HPY := hide hpy; have HBY2 := hide hby2
  clear hpy hby2 f0 f1 f2
  have hAD : Hid (Calls Try.prog 25 #[.slice (some ⟨wf.heap.size + 1, 0, none⟩) n capa, .slice (some ⟨wa.heap.size, 0, none⟩) n capb] wy.drew fun e w' =>
      ∃ ao cap, e = .returned (.slice ao n cap) ∧ ObjAt w' ao n (xorL A B) ∧ Below wy.heap.size wy w') := by
    have ha := ((HOA.out.later HBX2.out).later HBY2.out).later (w' := wy.drew) (Below.refl _ _).drew
    have hb := ((HOB.out.later HBX2.out).later HBY2.out).later (w' := wy.drew) (Below.refl _ _).drew
    refine (added_walk (wf.heap.size + 1) 0 wa.heap.size 0 n capa capb A B hAn hBn hAl.out hBl.out (by omega) wy.drew ha.cells hb.cells).mono ?_
    rintro e w' ⟨v, rfl, ho, hf, hb⟩
    obtain ⟨ao, cap, rfl, hobj⟩ := ho.obj (xorL_lt hAl.out hBl.out)
    have e : (xorL A B).length = n := by rw [xorL_length (by rw [hAn.out, hBn.out]), hAn.out]
    rw [e] at hobj
    exact ⟨ao, cap, by rw [e], hobj, (Below.refl _ _).drew.trans hb⟩
  go_wp2_with fail
  go_cut [19, 20] from 24 to 58 (fun v e w' => ∃ gz capz curz, v = .slice (some ⟨gz, 0, none⟩) T capz ∧ e = .int .i64 0 ∧ PacketsAt w' gz T (10 + s) curz (Pk.packets 1 (xorL A B) s m p) ∧ Below wy.heap.size wy w')
  case first =>
    go_region_with first | (go_at_call 25; refine hAD.out.mono ?_; rintro _ wd ⟨ao, capd, rfl, hod, hbd⟩; have e0 := cell_later hbd g0; have e1 := cell_later hbd g1; have e2 := cell_later hbd g2) | (go_at_call 22; refine (PK.out _ _ _ _ hod).mono ?_; rintro _ wz ⟨gz, capz, curz, rfl, hpz, hbz⟩)
    all_goals
      go_wp2_with fail
      go_meet
      case rel => exact ⟨gz, capz, curz, rfl, rfl, hpz, hbd.trans (hbz.mono hbd.size)⟩
  case rest =>
    obtain ⟨gz, capz, curz, rfl, rfl, hpz, hbz⟩ := hcut
    have k0 := cell_later hbz g0
    have k1 := cell_later hbz g1
    have k2 := cell_later hbz g2
    have HPZ := hide hpz; have HBZ := hide hbz
    clear hpz hbz g0 g1 g2 PK hAD F hsh1 hsh2
    go_wp2_with (go_at_call 24; refine (many_walk n s m p (by omega) h1 h2 h3 h4 _).mono ?_; rintro _ w9 ⟨rfl, hb9⟩; replace hb9 := hide hb9; simp only [hmany])
    have hX9 := hide (((HPX.out.later HBY2.out).later HBZ.out).later hb9.out)
    have hY9 := hide ((HPY.out.later HBZ.out).later hb9.out)
    have hZ9 := hide (HPZ.out.later hb9.out)
    have hB9 := hide ((((HBX.out.later HBX2.out).later HBY2.out).later HBZ.out).later hb9.out)
    have hcN : Hid (10 + s = c) := by show 10 + s = c; omega
    have hc10 : c - 10 = s := by omega
    clear k0 k1 k2
    go_loopw [22] (fun x wr => ∃ q : Nat, q ≤ T ∧ x = .int .i64 q ∧ Below w9.heap.size w9 wr) (fun x _ => leftOf T (intOf x).toNat)
    case atStart => exact ⟨0, by omega, rfl, Below.refl _ _⟩
    case round =>
      obtain ⟨q, hq, rfl, hbw⟩ := hrel
      by_cases hqT : q < T
      · obtain ⟨hd, pa, pb, e1, e2, e3, e4, e5, e6, e7, e8⟩ := three_packets hAn.out hBn.out hAl.out hBl.out h3 h4 h5 h1 hL.out hM.out hT.out hqT
        obtain ⟨a1, c1, r1⟩ := hX9.out.at_ q _ e6
        obtain ⟨a2, c2, r2⟩ := hY9.out.at_ q _ e7
        obtain ⟨a3, c3, r3⟩ := hZ9.out.at_ q _ e8
        have hpV : ∀ g, packV (10 + s) g = .slice (some ⟨g, 0, none⟩) c c := fun g => by unfold packV; rw [hcN.out]
        rw [hpV] at c1 c2 c3
        clear hpV
        have R1 := hide r1; have R2 := hide r2; have R3 := hide r3
        have hAD2 : Hid (∀ wX, Below w9.heap.size w9 wX → Calls Try.prog 25 #[.slice (some ⟨a1, 10, none⟩) s s, .slice (some ⟨a2, 10, none⟩) s s] wX fun e w' =>
            ∃ gs caps cur, e = .returned (.slice (some ⟨gs, 0, none⟩) s caps) ∧ RowL w' gs 5 cur ∧ cur.take s = u8s (xorL pa pb) ∧ Below w9.heap.size w9 w') := by
          intro wX hbX
          have t1 : ∀ j, j < s → wX.cell? ⟨a1, 10 + j, none⟩ = some (.int .u8 ((pa[j]?.getD 0 : Nat) : Int)) := by
            intro j hj
            apply (R1.out.later hbX).cell
            rw [u8s_append, List.getElem?_append_right (by rw [u8s_length, e1]; omega), u8s_length, e1, Nat.add_sub_cancel_left]
            exact u8s_at (by rw [e2]; exact hj)
          have t2 : ∀ j, j < s → wX.cell? ⟨a2, 10 + j, none⟩ = some (.int .u8 ((pb[j]?.getD 0 : Nat) : Int)) := by
            intro j hj
            apply (R2.out.later hbX).cell
            rw [u8s_append, List.getElem?_append_right (by rw [u8s_length, e1]; omega), u8s_length, e1, Nat.add_sub_cancel_left]
            exact u8s_at (by rw [e3]; exact hj)
          refine (added_walk a1 10 a2 10 s s s pa pb e2 e3 e4 e5 (by omega) wX t1 t2).mono ?_
          rintro e w' ⟨v, rfl, ho, hf, hb⟩
          have e9 : (u8s (xorL pa pb)).length = s := by rw [u8s_length, xorL_length (by rw [e2, e3]), e2]
          obtain ⟨g, cap, cur, rfl, hr, _, _, _, ht⟩ := ho.open' (by omega)
          rw [e9] at ht
          exact ⟨g, cap, cur, by rw [e9], hr, ht, hbX.trans (hb.mono hbX.size)⟩
        have hxl : Hid ((xorL pa pb).length = s) := by show _ = _; rw [xorL_length (by rw [e2, e3]), e2]
        have hcv : Hid (∀ wX, Below w9.heap.size w9 wX →
            (convert 36 9 (.slice (some ⟨a3, 10, none⟩) s s)).run Try.prog wX = .ok (.string (strOf (xorL pa pb))) wX ∧
            (convert 36 9 (.slice (some ⟨a1, 0, none⟩) 10 c)).run Try.prog wX = .ok (.string (strOf hd)) wX ∧
            (convert 36 9 (.slice (some ⟨a3, 0, none⟩) 10 c)).run Try.prog wX = .ok (.string (strOf hd)) wX) := by
          intro wX hbX
          refine ⟨conv_str (R3.out.later hbX) hxl.out ?_, conv_str (R1.out.later hbX) e1 ?_, conv_str (R3.out.later hbX) e1 ?_⟩
          · intro j hj
            rw [u8s_append, List.getElem?_append_right (by rw [u8s_length, e1]; omega), u8s_length, e1, Nat.add_sub_cancel_left]
            exact u8s_at (by rw [hxl.out]; exact hj)
          · intro j hj
            rw [Nat.zero_add, u8s_append, List.getElem?_append_left (by rw [u8s_length, e1]; exact hj)]
            exact u8s_at (by rw [e1]; exact hj)
          · intro j hj
            rw [Nat.zero_add, u8s_append, List.getElem?_append_left (by rw [u8s_length, e1]; exact hj)]
            exact u8s_at (by rw [e1]; exact hj)
        have C1 := hide ((hX9.out.row.later hbw).cell q _ c1)
        have C2 := hide ((hY9.out.row.later hbw).cell q _ c2)
        have C3 := hide ((hZ9.out.row.later hbw).cell q _ c3)
        have c1' := C1.out; have c2' := C2.out; have c3' := C3.out
        have b0 := (hB9.out.later hbw).cell 0 _ rfl
        have HB := hide hbw
        clear hbw r1 r2 r3 e1 e2 e3 e4 e5 e6 e7 e8
        have hdr0 : Hid (∀ nq, Below w9.heap.size w9 (wr.drewN nq)) := fun nq => HB.out.trans ⟨rfl, rfl, rfl, Nat.le_refl _, fun _ _ => rfl⟩
        have q0 : (0 : Int) ≤ (q : Int) := by omega
        have q1 : (q : Int) < (T : Int) := by omega
        have vc : IntKind.i64.wrap (c : Int) = (c : Int) := wrap_i64_in _ (by omega) (by omega)
        have c10 : (10 : Int) ≤ (c : Int) := by omega
        have hcne : ¬ c = 10 := by omega
        go_wp2_with fail
        go_quiet (fail)
        go_wp2_with fail
        go_cut [23] from 110 to 181 (fun v w' => ∃ gs caps cur, v = .slice (some ⟨gs, 0, none⟩) s caps ∧ RowL w' gs 5 cur ∧ cur.take s = u8s (xorL pa pb) ∧ Below w9.heap.size w9 w')
        case first =>
          have hC := hide (hAD2.out (wr.drewN (nq + 1)) (hdr0.out (nq + 1)))
          clear hAD2 hcv
          go_region_with (go_at_call 25; refine hC.out.mono ?_; rintro _ wd ⟨gs, caps, cur, rfl, hrs, hts, hbd⟩)
          all_goals
            go_wp2_with fail
            go_meet
            case rel => exact ⟨gs, caps, cur, rfl, hrs, hts, hbd⟩
        case rest =>
          obtain ⟨gs, caps, cur, rfl, hrs, hts, hbd⟩ := hcut
          have hdr : ∀ nq, Below w9.heap.size w9 (wc.drewN nq) := fun nq => hbd.trans ⟨rfl, rfl, rfl, Nat.le_refl _, fun _ _ => rfl⟩
          have v1 : ∀ nq, (convert 36 9 (.slice (some ⟨gs, 0, none⟩) s caps)).run Try.prog (wc.drewN nq) = .ok (.string (strOf (xorL pa pb))) (wc.drewN nq) := fun nq => by
            refine conv_str (hrs.drewN nq) hxl.out ?_
            intro j hj
            rw [Nat.zero_add]
            have h9 : (u8s (xorL pa pb))[j]? = some (.int .u8 (((xorL pa pb)[j]?.getD 0 : Nat) : Int)) := u8s_at (by rw [hxl.out]; exact hj)
            have h8 : (cur.take s)[j]? = some (.int .u8 (((xorL pa pb)[j]?.getD 0 : Nat) : Int)) := by rw [hts]; exact h9
            rw [List.getElem?_take, if_pos hj] at h8
            exact h8
          have v2 := fun nq => (hcv.out _ (hdr nq)).1
          have v3 := fun nq => (hcv.out _ (hdr nq)).2.1
          have v4 := fun nq => (hcv.out _ (hdr nq)).2.2
          have m1 : wc.cell? ⟨gx, q, none⟩ = some (.slice (some ⟨a1, 0, none⟩) c c) := (hX9.out.row.later hbd).cell q _ c1
          have m3 : wc.cell? ⟨gz, q, none⟩ = some (.slice (some ⟨a3, 0, none⟩) c c) := (hZ9.out.row.later hbd).cell q _ c3
          have s1 : ((strOf (xorL pa pb)).toList == (strOf (xorL pa pb)).toList) = true := by simp
          have s2 : ((strOf hd).toList == (strOf hd).toList) = true := by simp
          have HBD := hide hbd
          clear hbd hrs hts hdr c1 c3 c1' c2' c3' b0
          go_wp2_with fail
          go_quiet (fail)
          go_wp2_with fail
          go_roundw
          case rel => exact ⟨q + 1, by omega, by go_num, HBD.out.trans ⟨rfl, rfl, rfl, Nat.le_refl _, fun _ _ => rfl⟩⟩
          case measure => refine leftOf_lt ?_ ?_ <;> simp only [intOf] <;> omega
      · have HB := hide hbw
        have qt : ¬ (q : Int) < (T : Int) := by omega
        clear hbw
        go_wp2_with fail
        go_ret
        refine ⟨rfl, ?_⟩
        have z1 := hbs.out.trans (hbf.out.mono hbs.out.size)
        have s1 := z1.size
        have z2 := (z1.alloc s1 (.cells #[.int .i64 s, .int .i64 m, .int .i64 p] 30)).trans (hba.out.mono (by simp; omega))
        have z3 := z2.trans (HBB.out.mono z2.size)
        have z4 := z3.trans (HBX2.out.mono z3.size)
        have z5 := z4.trans (HBY2.out.mono z4.size)
        have z6 := z5.trans (HBZ.out.mono z5.size)
        have z7 := z6.trans (hb9.out.mono z6.size)
        exact z7.trans (HB.out.mono z7.size)
end Go.Proofs.Ytmfpiodlecapiaa
