/- The walk of Whole where there would be too many blocks; and both ways together. -/
import Derived.Test.YtmfpiodlecapiaaWholeWalk
namespace Go.Proofs.Ytmfpiodlecapiaa
open Go.RowKit Go.Deep
attribute [local go_sem ↓] Go.wp_at_zero Go.wp_at_succ

set_option maxRecDepth 20000 in
set_option maxHeartbeats 1000000 in
theorem whole_many (id x y z : Int) (S : ByteArray) (hS : Hid (S.size ≤ maxLen)) (w0 : Hid ((Lit.int .i64 id).wf = true)) (w1 : Hid ((Lit.int .i64 x).wf = true)) (w2 : Hid ((Lit.int .i64 y).wf = true)) (w3 : Hid ((Lit.int .i64 z).wf = true))
    (I s m p n : Nat) (pI : Hid (pickN id 65536 = I)) (ps : Hid (1 + pickN x 16 = s)) (pm : Hid (1 + pickN y 20 = m)) (pp : Hid (pickN z 21 = p)) (h1 : 1 ≤ s) (h2 : s ≤ 16) (h3 : 1 ≤ m) (h4 : m ≤ 20) (h5 : p ≤ 20)
    (hn : Hid (n = min S.size 2000)) (hn2 : n ≤ 2000) (hmany : manyN n s m = true) (w : World) :
    Calls Try.prog 7 #[.int .i64 id, .string S, .int .i64 x, .int .i64 y, .int .i64 z] w fun e w' => e = .returned (.bool true) ∧ Below w.heap.size w w' := by
  have F := hide (fun w => fit_walk x y z w1 w2 w3 w)
  rw [ps.out, pm.out, pp.out] at F
  have P := hide (fun w => pick_lit id 65536 65536 rfl w0.out (by omega) (by omega) w)
  rw [pI.out] at P
  have hsh := hide (fun w => short_walk S 2000 n (by omega) hS.out hn.out w)
  go_enter Try.func7, Try.ntmps7
  go_wp2_with first | (go_at_call 17; refine (sure_walk _).mono ?_; rintro _ ws ⟨rfl, hbs⟩; replace hbs := hide hbs) | (go_at_call 20; refine (F.out _).mono ?_; rintro _ wf ⟨rfl, hbf⟩; replace hbf := hide hbf) | (go_at_call 21; refine (hsh.out _).mono ?_; rintro _ wb ⟨capb, rfl, hcb, hcb2, hob, hbb⟩; replace hbb := hide hbb; clear hob)
  have hbx := hide (rowL_alloc' wf #[.int .i64 s, .int .i64 m, .int .i64 p] 30)
  have hbxb := hbx.out.later hbb.out
  have d0 := hbxb.cell 0 _ rfl
  have d1 := hbxb.cell 1 _ rfl
  have d2 := hbxb.cell 2 _ rfl
  have HBX := hide hbxb
  clear hbxb
  have hPk := hide (fPackets_no (some ⟨wf.heap.size + 1, 0, none⟩) n capb (I : Int) s m p hn2 h1 h2 h3 h4 h5 hmany wb.drew)
  go_cut [14, 15] from 25 to 39 (fun v e w' => v = .slice none 0 0 ∧ e = .int .i64 1 ∧ Below wb.heap.size wb w')
  case first =>
    go_region_with first | (go_at_call 18; refine (P.out _).mono ?_; rintro _ wq ⟨rfl, hx1⟩; have hx2 := hx1.symm; clear hx1; subst hx2) | (go_at_call 22; refine hPk.out.mono ?_; rintro _ wp ⟨rfl, hbp⟩)
    all_goals
      go_wp2_with fail
      go_meet
      case rel => exact ⟨rfl, rfl, (Below.refl _ _).drew.trans hbp⟩
  case rest =>
    obtain ⟨rfl, rfl, hbc⟩ := hcut
    have hbxc := HBX.out.later hbc
    have d0' := hbxc.cell 0 _ rfl
    have d1' := hbxc.cell 1 _ rfl
    have d2' := hbxc.cell 2 _ rfl
    have HBC := hide hbc
    clear hbc hbxc d0 d1 d2 hPk F P hsh
    have hBl := hide (fBlocks_no n s m p hn2 h1 h2 h3 h4 h5 hmany)
    go_wp2_with first | (go_at_call 23; refine (hBl.out _).mono ?_; rintro _ w6 ⟨rfl, hb6⟩; have e0 := cell_later hb6 d0'; have e1 := cell_later hb6 d1'; have e2 := cell_later hb6 d2'; replace hb6 := hide hb6) | (go_at_call 24; refine (many_walk n s m p (by omega) h1 h2 h3 h4 _).mono ?_; rintro _ w7 ⟨rfl, hb7⟩; replace hb7 := hide hb7; simp only [hmany])
    go_ret
    refine ⟨rfl, ?_⟩
    have z1 := hbs.out.trans (hbf.out.mono hbs.out.size)
    have s1 := z1.size
    have z2 := (z1.alloc s1 (.cells #[.int .i64 s, .int .i64 m, .int .i64 p] 30)).trans (hbb.out.mono (by simp; omega))
    have z3 := z2.trans (HBC.out.mono z2.size)
    have z4 := z3.trans (hb6.out.mono z3.size)
    exact z4.trans (hb7.out.mono z4.size)

theorem whole_walk (id : Int) (S : ByteArray) (x y z : Int) (w0 : (Lit.int .i64 id).wf = true) (hS : S.size ≤ maxLen) (w1 : (Lit.int .i64 x).wf = true) (w2 : (Lit.int .i64 y).wf = true) (w3 : (Lit.int .i64 z).wf = true) (w : World) :
    Calls Try.prog 7 #[.int .i64 id, .string S, .int .i64 x, .int .i64 y, .int .i64 z] w fun e w' => e = .returned (.bool true) ∧ Below w.heap.size w w' := by
  have hI := pickN_lt id (n := 65536) (by omega)
  have hs := pickN_lt x (n := 16) (by omega)
  have hm := pickN_lt y (n := 20) (by omega)
  have hp := pickN_lt z (n := 21) (by omega)
  obtain ⟨s, es⟩ : ∃ s, s = 1 + pickN x 16 := ⟨_, rfl⟩
  obtain ⟨m, em⟩ : ∃ m, m = 1 + pickN y 20 := ⟨_, rfl⟩
  obtain ⟨n, en⟩ : ∃ n, n = min S.size 2000 := ⟨_, rfl⟩
  by_cases hmany : manyN n s m = true
  · exact whole_many id x y z S hS w0 w1 w2 w3 _ s m _ n rfl es.symm em.symm rfl (by omega) (by omega) (by omega) (by omega) (by omega) en (by omega) hmany w
  · have hmany' : manyN n s m = false := by simpa using hmany
    have h3 : 1 ≤ m := by omega
    have h1 : 1 ≤ s := by omega
    have hb : Cut.blocks (Cut.pieces n s) m ≤ 256 := by
      rw [manyN_eq h3] at hmany'
      simpa using hmany'
    have hb1 := Cut.blocks_pos (Cut.pieces_pos n s) h3
    have hp1 := Cut.pieces_le (len := n) (s := s) (by omega) h1
    have hp0 := Cut.pieces_pos n s
    have hcov := Cut.pieces_cover (len := n) (s := s) h1
    have hless := pieces_less (n := n) (s := s) h1
    have hsum := Cut.sizes_sum (len := n) (s := s) h3
    have hlen := Cut.sizes_length n s m
    have hM1 : 1 * 1 ≤ Cut.pieces n s * s := Nat.mul_le_mul hp0 h1
    have hM2 : Cut.pieces n s * s ≤ 2000 * 16 := Nat.mul_le_mul hp1 (by omega)
    have hol : ((bytesOf S).take n).length = n := by rw [List.length_take, bytesOf_length]; omega
    have hT2 : Pk.start (Cut.sizes n s m) (pickN z 21) (Cut.sizes n s m).length ≤ 65536 := by
      unfold Pk.start
      rw [List.take_length, hsum, hlen]
      have : Cut.blocks (Cut.pieces n s) m * pickN z 21 ≤ 256 * 20 := Nat.mul_le_mul hb (by omega)
      omega
    exact whole_core id x y z S hS w0 w1 w2 w3 _ s m _ n _ _ _ (10 + s) _ _ _ rfl hI es.symm em.symm rfl h1 (by omega) h3 (by omega) (by omega) en (by omega) rfl hmany' rfl hlen hb hb1 (by omega) rfl hsum rfl (by omega) hcov hless.1 hless.2 (by omega) hol rfl hT2 w
end Go.Proofs.Ytmfpiodlecapiaa
