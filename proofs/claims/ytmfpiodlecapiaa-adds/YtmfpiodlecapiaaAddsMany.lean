/- The walk of Adds where there would be too many blocks; and both ways together. -/
import Derived.Test.YtmfpiodlecapiaaAddsWalk
namespace Go.Proofs.Ytmfpiodlecapiaa
open Go.RowKit Go.Deep
attribute [local go_sem ↓] Go.wp_at_zero Go.wp_at_succ

set_option maxRecDepth 20000 in
set_option maxHeartbeats 1000000 in
theorem adds_many (S1 S2 : ByteArray) (x y z : Int) (hS1 : Hid (S1.size ≤ maxLen)) (hS2 : Hid (S2.size ≤ maxLen)) (w1 : Hid ((Lit.int .i64 x).wf = true)) (w2 : Hid ((Lit.int .i64 y).wf = true)) (w3 : Hid ((Lit.int .i64 z).wf = true))
    (s m p na n : Nat) (A B : List Nat) (ps : Hid (1 + pickN x 16 = s)) (pm : Hid (1 + pickN y 20 = m)) (pp : Hid (pickN z 21 = p)) (h1 : 1 ≤ s) (h2 : s ≤ 16) (h3 : 1 ≤ m) (h4 : m ≤ 20) (h5 : p ≤ 20)
    (hna : Hid (na = min S1.size 500)) (hn : Hid (n = min S2.size na)) (hna2 : na ≤ 500) (hn2 : n ≤ na) (hA : Hid (A = (bytesOf S1).take n)) (hB : Hid (B = (bytesOf S2).take n)) (hAn : Hid (A.length = n)) (hBn : Hid (B.length = n)) (hAl : Hid (∀ x ∈ A, x < 256)) (hBl : Hid (∀ x ∈ B, x < 256)) (hmany : manyN n s m = true) (w : World) :
    Calls Try.prog 8 #[.string S1, .string S2, .int .i64 x, .int .i64 y, .int .i64 z] w fun e w' => e = .returned (.bool true) ∧ Below w.heap.size w w' := by
  have F := hide (fun w => fit_walk x y z w1 w2 w3 w)
  rw [ps.out, pm.out, pp.out] at F
  have hsh1 := hide (fun w => short_walk S1 500 na (by omega) hS1.out hna.out w)
  have hsh2 := hide (fun w => short_walk S2 na n (by omega) hS2.out hn.out w)
  have PK : Hid (∀ (ao : Option Addr) (cap : Nat) (w : World), Calls Try.prog 22 #[.int .i64 1, .slice ao n cap, .agg #[.int .i64 s, .int .i64 m, .int .i64 p]] w fun e w' =>
      e = .returned (.tuple #[.slice none 0 0, .int .i64 1]) ∧ Below w.heap.size w w') :=
    fun ao cap w => fPackets_no ao n cap 1 s m p (by omega) h1 h2 h3 h4 h5 hmany w
  go_enter Try.func8, Try.ntmps8
  go_wp2_with first | (go_at_call 17; refine (sure_walk _).mono ?_; rintro _ ws ⟨rfl, hbs⟩; replace hbs := hide hbs) | (go_at_call 20; refine (F.out _).mono ?_; rintro _ wf ⟨rfl, hbf⟩; replace hbf := hide hbf)
  refine (hsh1.out _).mono ?_
  rintro _ wa ⟨capa, rfl, hca, hca2, hoa, hba⟩
  replace hba := hide hba; replace hoa := hide hoa
  go_wp2_with fail
  refine (hsh2.out _).mono ?_
  rintro _ wb ⟨capb, rfl, hcb, hcb2, hob, hbb⟩
  have hbx := hide (rowL_alloc' wf #[.int .i64 s, .int .i64 m, .int .i64 p] 30)
  have hbxb := (hbx.out.later hba.out).later hbb
  have d0 := hbxb.cell 0 _ rfl
  have d1 := hbxb.cell 1 _ rfl
  have d2 := hbxb.cell 2 _ rfl
  have hoa2 := (hoa.out.later hbb).short hn2
  rw [List.take_take, Nat.min_eq_left hn2, ← hA.out] at hoa2
  rw [← hB.out] at hob
  simp only [World.size_alloc] at hoa2
  have HOA := hide hoa2; have HOB := hide hob; have HBB := hide hbb
  clear hbxb hoa2 hob hbb
  have hcn : (n : Int) ≤ (capa : Int) := by omega
  go_wp2_with fail
  refine (PK.out _ _ _).mono ?_
  rintro _ wx ⟨rfl, hbx2⟩
  have f0 := cell_later hbx2 d0
  have f1 := cell_later hbx2 d1
  have f2 := cell_later hbx2 d2
  have HBX2 := hide hbx2
  clear hbx2 d0 d1 d2
  go_wp2_with fail
  refine (PK.out _ _ _).mono ?_
  rintro _ wy ⟨rfl, hby2⟩
  have g0 := cell_later hby2 f0
  have g1 := cell_later hby2 f1
  have g2 := cell_later hby2 f2
  have HBY2 := hide hby2
  clear hby2 f0 f1 f2
  have hAD : Hid (Calls Try.prog 25 #[.slice (some ⟨wf.heap.size + 1, 0, none⟩) n capa, .slice (some ⟨wa.heap.size, 0, none⟩) n capb] wy.drew fun e w' =>
      ∃ ao cap, e = .returned (.slice ao n cap) ∧ Below wy.heap.size wy w') := by
    have ha := ((HOA.out.later HBX2.out).later HBY2.out).later (w' := wy.drew) (Below.refl _ _).drew
    have hb := ((HOB.out.later HBX2.out).later HBY2.out).later (w' := wy.drew) (Below.refl _ _).drew
    refine (added_walk (wf.heap.size + 1) 0 wa.heap.size 0 n capa capb A B hAn hBn hAl.out hBl.out (by omega) wy.drew ha.cells hb.cells).mono ?_
    rintro e w' ⟨v, rfl, ho, hf, hb⟩
    obtain ⟨ao, cap, rfl, hobj⟩ := ho.obj (xorL_lt hAl.out hBl.out)
    have e : (xorL A B).length = n := by rw [xorL_length (by rw [hAn.out, hBn.out]), hAn.out]
    exact ⟨ao, cap, by rw [e], (Below.refl _ _).drew.trans hb⟩
  go_wp2_with fail
  go_cut [19, 20] from 24 to 58 (fun v e w' => v = .slice none 0 0 ∧ e = .int .i64 1 ∧ Below wy.heap.size wy w')
  case first =>
    go_region_with first | (go_at_call 25; refine hAD.out.mono ?_; rintro _ wd ⟨ao, capd, rfl, hbd⟩; have e0 := cell_later hbd g0; have e1 := cell_later hbd g1; have e2 := cell_later hbd g2) | (go_at_call 22; refine (PK.out _ _ _).mono ?_; rintro _ wz ⟨rfl, hbz⟩)
    all_goals
      go_wp2_with fail
      go_meet
      case rel => exact ⟨rfl, rfl, hbd.trans (hbz.mono hbd.size)⟩
  case rest =>
    obtain ⟨rfl, rfl, hbz⟩ := hcut
    have k0 := cell_later hbz g0
    have k1 := cell_later hbz g1
    have k2 := cell_later hbz g2
    have HBZ := hide hbz
    clear hbz g0 g1 g2 PK hAD F hsh1 hsh2
    go_wp2_with (go_at_call 24; refine (many_walk n s m p (by omega) h1 h2 h3 h4 _).mono ?_; rintro _ w9 ⟨rfl, hb9⟩; replace hb9 := hide hb9; simp only [hmany])
    go_ret
    refine ⟨rfl, ?_⟩
    have z1 := hbs.out.trans (hbf.out.mono hbs.out.size)
    have s1 := z1.size
    have z2 := (z1.alloc s1 (.cells #[.int .i64 s, .int .i64 m, .int .i64 p] 30)).trans (hba.out.mono (by simp; omega))
    have z3 := z2.trans (HBB.out.mono z2.size)
    have z4 := z3.trans (HBX2.out.mono z3.size)
    have z5 := z4.trans (HBY2.out.mono z4.size)
    have z6 := z5.trans (HBZ.out.mono z5.size)
    exact z6.trans (hb9.out.mono z6.size)

theorem adds_walk (S1 S2 : ByteArray) (x y z : Int) (hS1 : S1.size ≤ maxLen) (hS2 : S2.size ≤ maxLen) (w1 : (Lit.int .i64 x).wf = true) (w2 : (Lit.int .i64 y).wf = true) (w3 : (Lit.int .i64 z).wf = true) (w : World) :
    Calls Try.prog 8 #[.string S1, .string S2, .int .i64 x, .int .i64 y, .int .i64 z] w fun e w' => e = .returned (.bool true) ∧ Below w.heap.size w w' := by
  have hs := pickN_lt x (n := 16) (by omega)
  have hm := pickN_lt y (n := 20) (by omega)
  have hp := pickN_lt z (n := 21) (by omega)
  obtain ⟨s, es⟩ : ∃ s, s = 1 + pickN x 16 := ⟨_, rfl⟩
  obtain ⟨m, em⟩ : ∃ m, m = 1 + pickN y 20 := ⟨_, rfl⟩
  obtain ⟨na, ena⟩ : ∃ na, na = min S1.size 500 := ⟨_, rfl⟩
  obtain ⟨n, en⟩ : ∃ n, n = min S2.size na := ⟨_, rfl⟩
  have hAn : ((bytesOf S1).take n).length = n := by rw [List.length_take, bytesOf_length]; omega
  have hBn : ((bytesOf S2).take n).length = n := by rw [List.length_take, bytesOf_length]; omega
  have hAl : ∀ x ∈ (bytesOf S1).take n, x < 256 := fun x hx => bytesOf_lt S1 x (List.mem_of_mem_take hx)
  have hBl : ∀ x ∈ (bytesOf S2).take n, x < 256 := fun x hx => bytesOf_lt S2 x (List.mem_of_mem_take hx)
  by_cases hmany : manyN n s m = true
  · exact adds_many S1 S2 x y z hS1 hS2 w1 w2 w3 s m _ na n _ _ es.symm em.symm rfl (by omega) (by omega) (by omega) (by omega) (by omega) ena en (by omega) (by omega) rfl rfl hAn hBn hAl hBl hmany w
  · have hmany' : manyN n s m = false := by simpa using hmany
    have h3 : 1 ≤ m := by omega
    have hb : Cut.blocks (Cut.pieces n s) m ≤ 256 := by
      rw [manyN_eq h3] at hmany'
      simpa using hmany'
    have hp1 := Cut.pieces_le (len := n) (s := s) (by omega) (by omega)
    have hp0 := Cut.pieces_pos n s
    have hsum := Cut.sizes_sum (len := n) (s := s) h3
    have hlen := Cut.sizes_length n s m
    have hT : Pk.start (Cut.sizes n s m) (pickN z 21) (Cut.sizes n s m).length = Cut.pieces n s + Cut.blocks (Cut.pieces n s) m * pickN z 21 := by
      unfold Pk.start
      rw [List.take_length, hsum, hlen]
    have hT3 : Cut.blocks (Cut.pieces n s) m * pickN z 21 ≤ 256 * 20 := Nat.mul_le_mul hb (by omega)
    exact adds_core S1 S2 x y z hS1 hS2 w1 w2 w3 s m _ na n (10 + s) _ _ _ _ _ es.symm em.symm rfl (by omega) (by omega) (by omega) (by omega) (by omega) ena en (by omega) (by omega) rfl rfl hAn hBn hAl hBl hmany' rfl rfl (by omega) rfl (by rw [hT]; omega) (by rw [hT]; omega) w
end Go.Proofs.Ytmfpiodlecapiaa
