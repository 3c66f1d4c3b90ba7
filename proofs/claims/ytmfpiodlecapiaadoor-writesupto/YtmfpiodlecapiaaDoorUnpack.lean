/- Whether bytes are a packet: package wire's Unpack. -/
import Derived.Test.YtmfpiodlecapiaaDoorFault
namespace Go.Proofs.YtmfpiodlecapiaaDoor
open Go.RowKit Go.Deep

abbrev pcs (c3 c4 c5 : Nat) : Nat := Cut.pieces (256 * c3 + c4) c5
set_option linter.unusedSimpArgs false in
set_option maxRecDepth 20000 in
set_option maxHeartbeats 2000000 in
theorem unpack_ok (b off n cap c1 c2 c3 c4 c5 c6 c7 c8 c9 L Z s : Nat) (hcap : n ≤ cap) (h1 : c1 < 256) (h2 : c2 < 256) (h3 : c3 < 256) (h4 : c4 < 256) (h5 : c5 < 256) (h6 : c6 < 256) (h7 : c7 < 256) (h8 : c8 < 256) (h9 : c9 < 256) (w : World)
    (d0 : w.cell? ⟨b, off, none⟩ = some (.int .u8 70)) (d1 : w.cell? ⟨b, off + 1, none⟩ = some (.int .u8 c1)) (d2 : w.cell? ⟨b, off + 2, none⟩ = some (.int .u8 c2)) (d3 : w.cell? ⟨b, off + 3, none⟩ = some (.int .u8 c3)) (d4 : w.cell? ⟨b, off + 4, none⟩ = some (.int .u8 c4)) (d5 : w.cell? ⟨b, off + 5, none⟩ = some (.int .u8 c5))
    (d6 : w.cell? ⟨b, off + 6, none⟩ = some (.int .u8 c6)) (d7 : w.cell? ⟨b, off + 7, none⟩ = some (.int .u8 c7)) (d8 : w.cell? ⟨b, off + 8, none⟩ = some (.int .u8 c8)) (d9 : w.cell? ⟨b, off + 9, none⟩ = some (.int .u8 c9))
    (hL : Hid (L = 256 * c3 + c4)) (hl : L ≤ 2000) (p1 : 1 ≤ c5) (p2 : c5 ≤ 16) (p3 : 1 ≤ c6) (p4 : c6 ≤ 20) (p5 : c7 ≤ 20) (hZ : Hid (Cut.blocks (Cut.pieces L c5) c6 = Z)) (hZ2 : Z ≤ 256) (hz : c8 < Z) (hs : Hid ((Cut.sizes L c5 c6)[c8]? = some s)) (hs2 : s ≤ 20) (hq : c9 < s + c7) (hn : Hid (n = 10 + c5)) :
    Calls Tryd.prog 16 #[.slice (some ⟨b, off, none⟩) n cap] w fun r w' => r = .returned (.tuple #[headV (256 * c1 + c2) L c5 c6 c7 c8 c9, .slice (some ⟨b, off + 10, none⟩) (n - 10) (cap - 10)]) ∧ Below w.heap.size w w' := by
  have HB0 := hide (((Below.refl w.heap.size w).alloc (Nat.le_refl _) (.cells #[.int .i64 0, .int .i64 0, .int .i64 0, .int .i64 0, .int .i64 0, .int .i64 0, .int .i64 0] 52)))
  have k10 : (10 : Int) < (n : Int) := by have := hn.out; omega
  have k0 : (0 : Int) < (n : Int) := by omega
  have RH := hide (readHead_walk b off n cap c1 c2 c3 c4 c5 c6 c7 c8 c9 (by omega) h1 h2 h3 h4 h5 h6 h7 h8 h9)
  have CB := hide (fun w => (cutBlocks_walk L c5 c6 c7 hl p1 p2 p3 p4 p5 w).1 (by rw [hZ.out]; exact hZ2))
  rw [hZ.out] at CB
  have D1 := hide d1; have D2 := hide d2; have D3 := hide d3; have D4 := hide d4; have D5 := hide d5; have D6 := hide d6; have D7 := hide d7; have D8 := hide d8; have D9 := hide d9
  replace d0 := cell_later HB0.out d0
  clear d1 d2 d3 d4 d5 d6 d7 d8 d9
  unfold headV at RH
  rw [← hL.out] at RH
  go_enter Tryd.func16, Tryd.ntmps16
  go_wp2_with first | (go_at_call 27; refine (need_ok _).mono ?_; rintro _ wq ⟨rfl, hq⟩; have hq2 := hq.symm; clear hq; subst hq2) | (go_at_call 28; refine (RH.out _ (cell_later HB0.out D1.out) (cell_later HB0.out D2.out) (cell_later HB0.out D3.out) (cell_later HB0.out D4.out) (cell_later HB0.out D5.out) (cell_later HB0.out D6.out) (cell_later HB0.out D7.out) (cell_later HB0.out D8.out) (cell_later HB0.out D9.out)).mono ?_; rintro _ w1 ⟨rfl, hb1⟩; replace hb1 := hide hb1)
  go_at_call 29
  refine (CB.out _).mono ?_
  rintro _ w2 ⟨g, hg, rfl, hb2, hr2⟩
  have R1 := (rowL_alloc' w1 _ _).later hb2
  have hB2 : Hid (Below w.heap.size w w2) := by
    show Below _ _ _
    have h1 := HB0.out.trans (hb1.out.mono HB0.out.size)
    exact (h1.alloc h1.size _).trans (hb2.mono (by simp; have := h1.size; omega))
  have q1 := R1.cell 1 _ rfl
  have q2 := R1.cell 2 _ rfl
  have q3 := R1.cell 3 _ rfl
  have q4 := R1.cell 4 _ rfl
  have q5 := R1.cell 5 _ rfl
  have q6 := R1.cell 6 _ rfl
  have q0 := R1.cell 0 _ rfl
  have qs : w2.cell? ⟨g, c8, none⟩ = some (.int .i64 s) := hr2.cell c8 _ (by simp only [i64s, List.getElem?_map, hs.out]; rfl)
  have e8 : (c8 : Int) < (Z : Int) := by omega
  have w9 := wrap_i64_in ((s : Int) + (c7 : Int)) (by omega) (by omega)
  have e9 : decide ((c9 : Int) < (s : Int) + (c7 : Int)) = true := by simp; omega
  have en : (n : Int) = 10 + (c5 : Int) := by have := hn.out; omega
  have R0 : Hid (RowL w2 w.heap.size 52 [.int .i64 0, .int .i64 0, .int .i64 0, .int .i64 0, .int .i64 0, .int .i64 0, .int .i64 0]) := by
    show RowL _ _ _ _
    exact (((rowL_alloc' w _ _).later hb1.out).alloc _).later hb2
  have HR1 := hide R1
  clear R1 hb2 hr2 hg hb1
  go_wp2_with (go_at_call 27; refine (need_ok _).mono ?_; rintro _ wq ⟨rfl, hq⟩; have hq2 := hq.symm; clear hq; subst hq2)
  go_quiet ((go_at_call 27; exact Calls.quiet_of_same (need_ok _)))
  have HR3 := HR1.out.drewN nq
  have R3 := R0.out.drewN nq
  have HB3 : Hid (Below w.heap.size w (w2.drewN nq)) := by
    show Below _ _ _
    exact ⟨hB2.out.os, hB2.out.tape, hB2.out.output, hB2.out.size, hB2.out.block⟩
  generalize w2.drewN nq = w3 at HR3 R3 HB3 ⊢
  clear q0 q1 q2 q3 q4 q5 q6 qs
  have q0 := HR3.cell 0 _ rfl
  have q1 := HR3.cell 1 _ rfl
  have q2 := HR3.cell 2 _ rfl
  have q3 := HR3.cell 3 _ rfl
  have q4 := HR3.cell 4 _ rfl
  have q5 := HR3.cell 5 _ rfl
  have q6 := HR3.cell 6 _ rfl
  have g0 := R3.cell 0 _ rfl
  have g1 := R3.cell 1 _ rfl
  have g2 := R3.cell 2 _ rfl
  have g3 := R3.cell 3 _ rfl
  have g4 := R3.cell 4 _ rfl
  have g5 := R3.cell 5 _ rfl
  have g6 := R3.cell 6 _ rfl
  have f0 := R3.frozen 0
  have f1 := R3.frozen 1
  have f2 := R3.frozen 2
  have f3 := R3.frozen 3
  have f4 := R3.frozen 4
  have f5 := R3.frozen 5
  have f6 := R3.frozen 6
  have HRH := hide HR3; have HRR := hide R3
  clear HR3 R3
  go_wp2_with (go_at_call 27; refine (need_ok _).mono ?_; rintro _ wq ⟨rfl, hq⟩; have hq2 := hq.symm; clear hq; subst hq2)
  go_region
  have R4 := ((((((((HRR.out.set 0 (.int .i64 (256 * (c1 : Int) + (c2 : Int)))).set 1 (.int .i64 (L : Int))).set 2 (.int .i64 (c5 : Int))).set 3 (.int .i64 (c6 : Int))).set 4 (.int .i64 (c7 : Int))).set 5 (.int .i64 (c8 : Int))).set 6 (.int .i64 (c9 : Int))).drew)
  have B4 : Hid (Below w.heap.size w ((((((((w3.setCell ⟨w.heap.size, 0, none⟩ (.int .i64 (256 * (c1 : Int) + (c2 : Int)))).setCell ⟨w.heap.size, 1, none⟩ (.int .i64 (L : Int))).setCell ⟨w.heap.size, 2, none⟩ (.int .i64 (c5 : Int))).setCell ⟨w.heap.size, 3, none⟩ (.int .i64 (c6 : Int))).setCell ⟨w.heap.size, 4, none⟩ (.int .i64 (c7 : Int))).setCell ⟨w.heap.size, 5, none⟩ (.int .i64 (c8 : Int))).setCell ⟨w.heap.size, 6, none⟩ (.int .i64 (c9 : Int))).drew)) := by
    show Below _ _ _
    exact (((((((HB3.out.setCell (Nat.le_refl _) _).setCell (Nat.le_refl _) _).setCell (Nat.le_refl _) _).setCell (Nat.le_refl _) _).setCell (Nat.le_refl _) _).setCell (Nat.le_refl _) _).setCell (Nat.le_refl _) _).drew
  generalize (((((((w3.setCell ⟨w.heap.size, 0, none⟩ _).setCell ⟨w.heap.size, 1, none⟩ _).setCell ⟨w.heap.size, 2, none⟩ _).setCell ⟨w.heap.size, 3, none⟩ _).setCell ⟨w.heap.size, 4, none⟩ _).setCell ⟨w.heap.size, 5, none⟩ _).setCell ⟨w.heap.size, 6, none⟩ _).drew = w4 at R4 B4 ⊢
  clear f0 f1 f2 f3 f4 f5 f6 g0 g1 g2 g3 g4 g5 g6 q0 q1 q2 q3 q4 q5 q6
  have g0 := R4.cell 0 _ rfl
  have g1 := R4.cell 1 _ rfl
  have g2 := R4.cell 2 _ rfl
  have g3 := R4.cell 3 _ rfl
  have g4 := R4.cell 4 _ rfl
  have g5 := R4.cell 5 _ rfl
  have g6 := R4.cell 6 _ rfl
  clear R4
  go_wp2
  refine bodyPost_ret (v := .tuple #[headV (256 * c1 + c2) L c5 c6 c7 c8 c9, .slice (some ⟨b, off + 10, none⟩) (n - 10) (cap - 10)]) (by simp [results, Tryd.results16, go_sem, headV, g0, g1, g2, g3, g4, g5, g6]) rfl ⟨rfl, B4.out⟩
/- The ways on which it is none. -/
set_option linter.unusedSimpArgs false in
set_option maxRecDepth 20000 in
set_option maxHeartbeats 2000000 in
theorem unpack_short (ao : Option Addr) (n cap : Nat) (hn : n ≤ 10) (w : World) :
    Calls Tryd.prog 16 #[.slice ao n cap] w fun r w' => r = .panicked [{ v := faultV 2, recovered := false }] ∧ Below w.heap.size w w' := by
  have HB0 := hide (((Below.refl w.heap.size w).alloc (Nat.le_refl _) (.cells #[.int .i64 0, .int .i64 0, .int .i64 0, .int .i64 0, .int .i64 0, .int .i64 0, .int .i64 0] 52)))
  have k10 : ¬ (10 : Int) < (n : Int) := by omega
  go_enter Tryd.func16, Tryd.ntmps16
  go_wp2_with (go_at_call 27; refine (need_no _).mono ?_; rintro _ wq ⟨rfl, hq⟩; have hq2 := hq.symm; clear hq; subst hq2)
  exact ⟨rfl, rfl, HB0.out⟩
set_option linter.unusedSimpArgs false in
set_option maxRecDepth 20000 in
set_option maxHeartbeats 2000000 in
theorem unpack_mark (b off n cap c0 : Nat) (hn : 10 < n) (h0 : c0 ≠ 70) (w : World) (d0 : w.cell? ⟨b, off, none⟩ = some (.int .u8 c0)) :
    Calls Tryd.prog 16 #[.slice (some ⟨b, off, none⟩) n cap] w fun r w' => r = .panicked [{ v := faultV 2, recovered := false }] ∧ Below w.heap.size w w' := by
  have HB0 := hide (((Below.refl w.heap.size w).alloc (Nat.le_refl _) (.cells #[.int .i64 0, .int .i64 0, .int .i64 0, .int .i64 0, .int .i64 0, .int .i64 0, .int .i64 0] 52)))
  have k10 : (10 : Int) < (n : Int) := by omega
  have k0 : (0 : Int) < (n : Int) := by omega
  have e0 : ((c0 : Int) == 70) = false := by simp; omega
  replace d0 := cell_later HB0.out d0
  go_enter Tryd.func16, Tryd.ntmps16
  go_wp2_with (go_at_call 27; refine (need_no _).mono ?_; rintro _ wq ⟨rfl, hq⟩; have hq2 := hq.symm; clear hq; subst hq2)
  exact ⟨rfl, rfl, HB0.out⟩
set_option linter.unusedSimpArgs false in
set_option maxRecDepth 20000 in
set_option maxHeartbeats 2000000 in
theorem unpack_refused (b off n cap c1 c2 c3 c4 c5 c6 c7 c8 c9 L : Nat) (hn : 10 < n) (h1 : c1 < 256) (h2 : c2 < 256) (h3 : c3 < 256) (h4 : c4 < 256) (h5 : c5 < 256) (h6 : c6 < 256) (h7 : c7 < 256) (h8 : c8 < 256) (h9 : c9 < 256) (w : World)
    (d0 : w.cell? ⟨b, off, none⟩ = some (.int .u8 70)) (d1 : w.cell? ⟨b, off + 1, none⟩ = some (.int .u8 c1)) (d2 : w.cell? ⟨b, off + 2, none⟩ = some (.int .u8 c2)) (d3 : w.cell? ⟨b, off + 3, none⟩ = some (.int .u8 c3)) (d4 : w.cell? ⟨b, off + 4, none⟩ = some (.int .u8 c4)) (d5 : w.cell? ⟨b, off + 5, none⟩ = some (.int .u8 c5))
    (d6 : w.cell? ⟨b, off + 6, none⟩ = some (.int .u8 c6)) (d7 : w.cell? ⟨b, off + 7, none⟩ = some (.int .u8 c7)) (d8 : w.cell? ⟨b, off + 8, none⟩ = some (.int .u8 c8)) (d9 : w.cell? ⟨b, off + 9, none⟩ = some (.int .u8 c9)) (hL : Hid (L = 256 * c3 + c4)) (hp : ¬ (0 ≤ (L : Int) ∧ (L : Int) ≤ 2000 ∧ planOk (c5 : Int) (c6 : Int) (c7 : Int))) :
    Calls Tryd.prog 16 #[.slice (some ⟨b, off, none⟩) n cap] w fun r w' => r = .panicked [{ v := faultV 2, recovered := false }] ∧ Below w.heap.size w w' := by
  have HB0 := hide (((Below.refl w.heap.size w).alloc (Nat.le_refl _) (.cells #[.int .i64 0, .int .i64 0, .int .i64 0, .int .i64 0, .int .i64 0, .int .i64 0, .int .i64 0] 52)))
  have k10 : (10 : Int) < (n : Int) := by omega
  have k0 : (0 : Int) < (n : Int) := by omega
  have RH := hide (readHead_walk b off n cap c1 c2 c3 c4 c5 c6 c7 c8 c9 hn h1 h2 h3 h4 h5 h6 h7 h8 h9)
  have CB := hide (fun w => cutBlocks_refused (L : Int) (c5 : Int) (c6 : Int) (c7 : Int) hp w)
  clear hp
  have D1 := hide d1; have D2 := hide d2; have D3 := hide d3; have D4 := hide d4; have D5 := hide d5; have D6 := hide d6; have D7 := hide d7; have D8 := hide d8; have D9 := hide d9
  replace d0 := cell_later HB0.out d0
  clear d1 d2 d3 d4 d5 d6 d7 d8 d9
  unfold headV at RH
  rw [← hL.out] at RH
  go_enter Tryd.func16, Tryd.ntmps16
  go_wp2_with first | (go_at_call 27; refine (need_ok _).mono ?_; rintro _ wq ⟨rfl, hq⟩; have hq2 := hq.symm; clear hq; subst hq2) | (go_at_call 28; refine (RH.out _ (cell_later HB0.out D1.out) (cell_later HB0.out D2.out) (cell_later HB0.out D3.out) (cell_later HB0.out D4.out) (cell_later HB0.out D5.out) (cell_later HB0.out D6.out) (cell_later HB0.out D7.out) (cell_later HB0.out D8.out) (cell_later HB0.out D9.out)).mono ?_; rintro _ w1 ⟨rfl, hb1⟩; replace hb1 := hide hb1)
  go_at_call 29
  refine (CB.out _).mono ?_
  rintro _ w2 ⟨rfl, hb2⟩
  have hB2 : Hid (Below w.heap.size w w2) := by
    show Below _ _ _
    have h1 := HB0.out.trans (hb1.out.mono HB0.out.size)
    exact (h1.alloc h1.size _).trans (hb2.mono (by simp; have := h1.size; omega))
  clear hb2 hb1
  go_wp2_with (go_at_call 27; refine (need_no _).mono ?_; rintro _ wq ⟨rfl, hq⟩; have hq2 := hq.symm; clear hq; subst hq2)
  exact ⟨rfl, rfl, hB2.out⟩
set_option linter.unusedSimpArgs false in
set_option maxRecDepth 20000 in
set_option maxHeartbeats 2000000 in
theorem unpack_many (b off n cap c1 c2 c3 c4 c5 c6 c7 c8 c9 L : Nat) (hn : 10 < n) (h1 : c1 < 256) (h2 : c2 < 256) (h3 : c3 < 256) (h4 : c4 < 256) (h5 : c5 < 256) (h6 : c6 < 256) (h7 : c7 < 256) (h8 : c8 < 256) (h9 : c9 < 256) (w : World)
    (d0 : w.cell? ⟨b, off, none⟩ = some (.int .u8 70)) (d1 : w.cell? ⟨b, off + 1, none⟩ = some (.int .u8 c1)) (d2 : w.cell? ⟨b, off + 2, none⟩ = some (.int .u8 c2)) (d3 : w.cell? ⟨b, off + 3, none⟩ = some (.int .u8 c3)) (d4 : w.cell? ⟨b, off + 4, none⟩ = some (.int .u8 c4)) (d5 : w.cell? ⟨b, off + 5, none⟩ = some (.int .u8 c5))
    (d6 : w.cell? ⟨b, off + 6, none⟩ = some (.int .u8 c6)) (d7 : w.cell? ⟨b, off + 7, none⟩ = some (.int .u8 c7)) (d8 : w.cell? ⟨b, off + 8, none⟩ = some (.int .u8 c8)) (d9 : w.cell? ⟨b, off + 9, none⟩ = some (.int .u8 c9)) (hL : Hid (L = 256 * c3 + c4)) (hl : L ≤ 2000) (p1 : 1 ≤ c5) (p2 : c5 ≤ 16) (p3 : 1 ≤ c6) (p4 : c6 ≤ 20) (p5 : c7 ≤ 20) (hZ : ¬ Cut.blocks (Cut.pieces L c5) c6 ≤ 256) :
    Calls Tryd.prog 16 #[.slice (some ⟨b, off, none⟩) n cap] w fun r w' => r = .panicked [{ v := faultV 2, recovered := false }] ∧ Below w.heap.size w w' := by
  have HB0 := hide (((Below.refl w.heap.size w).alloc (Nat.le_refl _) (.cells #[.int .i64 0, .int .i64 0, .int .i64 0, .int .i64 0, .int .i64 0, .int .i64 0, .int .i64 0] 52)))
  have k10 : (10 : Int) < (n : Int) := by omega
  have k0 : (0 : Int) < (n : Int) := by omega
  have RH := hide (readHead_walk b off n cap c1 c2 c3 c4 c5 c6 c7 c8 c9 hn h1 h2 h3 h4 h5 h6 h7 h8 h9)
  have CB := hide (fun w => (cutBlocks_walk L c5 c6 c7 hl p1 p2 p3 p4 p5 w).2 hZ)
  clear hZ
  have D1 := hide d1; have D2 := hide d2; have D3 := hide d3; have D4 := hide d4; have D5 := hide d5; have D6 := hide d6; have D7 := hide d7; have D8 := hide d8; have D9 := hide d9
  replace d0 := cell_later HB0.out d0
  clear d1 d2 d3 d4 d5 d6 d7 d8 d9
  unfold headV at RH
  rw [← hL.out] at RH
  go_enter Tryd.func16, Tryd.ntmps16
  go_wp2_with first | (go_at_call 27; refine (need_ok _).mono ?_; rintro _ wq ⟨rfl, hq⟩; have hq2 := hq.symm; clear hq; subst hq2) | (go_at_call 28; refine (RH.out _ (cell_later HB0.out D1.out) (cell_later HB0.out D2.out) (cell_later HB0.out D3.out) (cell_later HB0.out D4.out) (cell_later HB0.out D5.out) (cell_later HB0.out D6.out) (cell_later HB0.out D7.out) (cell_later HB0.out D8.out) (cell_later HB0.out D9.out)).mono ?_; rintro _ w1 ⟨rfl, hb1⟩; replace hb1 := hide hb1)
  go_at_call 29
  refine (CB.out _).mono ?_
  rintro _ w2 ⟨rfl, hb2⟩
  have hB2 : Hid (Below w.heap.size w w2) := by
    show Below _ _ _
    have h1 := HB0.out.trans (hb1.out.mono HB0.out.size)
    exact (h1.alloc h1.size _).trans (hb2.mono (by simp; have := h1.size; omega))
  clear hb2 hb1
  go_wp2_with (go_at_call 27; refine (need_no _).mono ?_; rintro _ wq ⟨rfl, hq⟩; have hq2 := hq.symm; clear hq; subst hq2)
  exact ⟨rfl, rfl, hB2.out⟩
set_option linter.unusedSimpArgs false in
set_option maxRecDepth 20000 in
set_option maxHeartbeats 2000000 in
theorem unpack_block (b off n cap c1 c2 c3 c4 c5 c6 c7 c8 c9 L Z : Nat) (hn : 10 < n) (h1 : c1 < 256) (h2 : c2 < 256) (h3 : c3 < 256) (h4 : c4 < 256) (h5 : c5 < 256) (h6 : c6 < 256) (h7 : c7 < 256) (h8 : c8 < 256) (h9 : c9 < 256) (w : World)
    (d0 : w.cell? ⟨b, off, none⟩ = some (.int .u8 70)) (d1 : w.cell? ⟨b, off + 1, none⟩ = some (.int .u8 c1)) (d2 : w.cell? ⟨b, off + 2, none⟩ = some (.int .u8 c2)) (d3 : w.cell? ⟨b, off + 3, none⟩ = some (.int .u8 c3)) (d4 : w.cell? ⟨b, off + 4, none⟩ = some (.int .u8 c4)) (d5 : w.cell? ⟨b, off + 5, none⟩ = some (.int .u8 c5))
    (d6 : w.cell? ⟨b, off + 6, none⟩ = some (.int .u8 c6)) (d7 : w.cell? ⟨b, off + 7, none⟩ = some (.int .u8 c7)) (d8 : w.cell? ⟨b, off + 8, none⟩ = some (.int .u8 c8)) (d9 : w.cell? ⟨b, off + 9, none⟩ = some (.int .u8 c9)) (hL : Hid (L = 256 * c3 + c4)) (hl : L ≤ 2000) (p1 : 1 ≤ c5) (p2 : c5 ≤ 16) (p3 : 1 ≤ c6) (p4 : c6 ≤ 20) (p5 : c7 ≤ 20) (hZ : Hid (Cut.blocks (Cut.pieces L c5) c6 = Z)) (hZ2 : Z ≤ 256) (hz : ¬ c8 < Z) :
    Calls Tryd.prog 16 #[.slice (some ⟨b, off, none⟩) n cap] w fun r w' => r = .panicked [{ v := faultV 2, recovered := false }] ∧ Below w.heap.size w w' := by
  have HB0 := hide (((Below.refl w.heap.size w).alloc (Nat.le_refl _) (.cells #[.int .i64 0, .int .i64 0, .int .i64 0, .int .i64 0, .int .i64 0, .int .i64 0, .int .i64 0] 52)))
  have k10 : (10 : Int) < (n : Int) := by omega
  have k0 : (0 : Int) < (n : Int) := by omega
  have RH := hide (readHead_walk b off n cap c1 c2 c3 c4 c5 c6 c7 c8 c9 hn h1 h2 h3 h4 h5 h6 h7 h8 h9)
  have CB := hide (fun w => (cutBlocks_walk L c5 c6 c7 hl p1 p2 p3 p4 p5 w).1 (by rw [hZ.out]; exact hZ2))
  rw [hZ.out] at CB
  have D1 := hide d1; have D2 := hide d2; have D3 := hide d3; have D4 := hide d4; have D5 := hide d5; have D6 := hide d6; have D7 := hide d7; have D8 := hide d8; have D9 := hide d9
  replace d0 := cell_later HB0.out d0
  clear d1 d2 d3 d4 d5 d6 d7 d8 d9
  unfold headV at RH
  rw [← hL.out] at RH
  go_enter Tryd.func16, Tryd.ntmps16
  go_wp2_with first | (go_at_call 27; refine (need_ok _).mono ?_; rintro _ wq ⟨rfl, hq⟩; have hq2 := hq.symm; clear hq; subst hq2) | (go_at_call 28; refine (RH.out _ (cell_later HB0.out D1.out) (cell_later HB0.out D2.out) (cell_later HB0.out D3.out) (cell_later HB0.out D4.out) (cell_later HB0.out D5.out) (cell_later HB0.out D6.out) (cell_later HB0.out D7.out) (cell_later HB0.out D8.out) (cell_later HB0.out D9.out)).mono ?_; rintro _ w1 ⟨rfl, hb1⟩; replace hb1 := hide hb1)
  go_at_call 29
  refine (CB.out _).mono ?_
  rintro _ w2 ⟨g, hg, rfl, hb2, hr2⟩
  have R1 := (rowL_alloc' w1 _ _).later hb2
  have hB2 : Hid (Below w.heap.size w w2) := by
    show Below _ _ _
    have h1 := HB0.out.trans (hb1.out.mono HB0.out.size)
    exact (h1.alloc h1.size _).trans (hb2.mono (by simp; have := h1.size; omega))
  have q1 := R1.cell 1 _ rfl
  have q2 := R1.cell 2 _ rfl
  have q3 := R1.cell 3 _ rfl
  have q4 := R1.cell 4 _ rfl
  have q5 := R1.cell 5 _ rfl
  have q6 := R1.cell 6 _ rfl
  have q0 := R1.cell 0 _ rfl
  have e8 : ¬ (c8 : Int) < (Z : Int) := by omega
  clear R1 hb2 hr2 hg hb1
  go_wp2_with first | (go_at_call 27; refine (need_ok _).mono ?_; rintro _ wq ⟨rfl, hq⟩; have hq2 := hq.symm; clear hq; subst hq2) | (go_at_call 27; refine (need_no _).mono ?_; rintro _ wq ⟨rfl, hq⟩; have hq2 := hq.symm; clear hq; subst hq2)
  exact ⟨rfl, rfl, hB2.out⟩
set_option linter.unusedSimpArgs false in
set_option maxRecDepth 20000 in
set_option maxHeartbeats 2000000 in
theorem unpack_piece (b off n cap c1 c2 c3 c4 c5 c6 c7 c8 c9 L Z s : Nat) (hn : 10 < n) (h1 : c1 < 256) (h2 : c2 < 256) (h3 : c3 < 256) (h4 : c4 < 256) (h5 : c5 < 256) (h6 : c6 < 256) (h7 : c7 < 256) (h8 : c8 < 256) (h9 : c9 < 256) (w : World)
    (d0 : w.cell? ⟨b, off, none⟩ = some (.int .u8 70)) (d1 : w.cell? ⟨b, off + 1, none⟩ = some (.int .u8 c1)) (d2 : w.cell? ⟨b, off + 2, none⟩ = some (.int .u8 c2)) (d3 : w.cell? ⟨b, off + 3, none⟩ = some (.int .u8 c3)) (d4 : w.cell? ⟨b, off + 4, none⟩ = some (.int .u8 c4)) (d5 : w.cell? ⟨b, off + 5, none⟩ = some (.int .u8 c5))
    (d6 : w.cell? ⟨b, off + 6, none⟩ = some (.int .u8 c6)) (d7 : w.cell? ⟨b, off + 7, none⟩ = some (.int .u8 c7)) (d8 : w.cell? ⟨b, off + 8, none⟩ = some (.int .u8 c8)) (d9 : w.cell? ⟨b, off + 9, none⟩ = some (.int .u8 c9)) (hL : Hid (L = 256 * c3 + c4)) (hl : L ≤ 2000) (p1 : 1 ≤ c5) (p2 : c5 ≤ 16) (p3 : 1 ≤ c6) (p4 : c6 ≤ 20) (p5 : c7 ≤ 20) (hZ : Hid (Cut.blocks (Cut.pieces L c5) c6 = Z)) (hZ2 : Z ≤ 256) (hz : c8 < Z) (hs : Hid ((Cut.sizes L c5 c6)[c8]? = some s)) (hs2 : s ≤ 20) (hq : ¬ c9 < s + c7) :
    Calls Tryd.prog 16 #[.slice (some ⟨b, off, none⟩) n cap] w fun r w' => r = .panicked [{ v := faultV 2, recovered := false }] ∧ Below w.heap.size w w' := by
  have HB0 := hide (((Below.refl w.heap.size w).alloc (Nat.le_refl _) (.cells #[.int .i64 0, .int .i64 0, .int .i64 0, .int .i64 0, .int .i64 0, .int .i64 0, .int .i64 0] 52)))
  have k10 : (10 : Int) < (n : Int) := by omega
  have k0 : (0 : Int) < (n : Int) := by omega
  have RH := hide (readHead_walk b off n cap c1 c2 c3 c4 c5 c6 c7 c8 c9 hn h1 h2 h3 h4 h5 h6 h7 h8 h9)
  have CB := hide (fun w => (cutBlocks_walk L c5 c6 c7 hl p1 p2 p3 p4 p5 w).1 (by rw [hZ.out]; exact hZ2))
  rw [hZ.out] at CB
  have D1 := hide d1; have D2 := hide d2; have D3 := hide d3; have D4 := hide d4; have D5 := hide d5; have D6 := hide d6; have D7 := hide d7; have D8 := hide d8; have D9 := hide d9
  replace d0 := cell_later HB0.out d0
  clear d1 d2 d3 d4 d5 d6 d7 d8 d9
  unfold headV at RH
  rw [← hL.out] at RH
  go_enter Tryd.func16, Tryd.ntmps16
  go_wp2_with first | (go_at_call 27; refine (need_ok _).mono ?_; rintro _ wq ⟨rfl, hq⟩; have hq2 := hq.symm; clear hq; subst hq2) | (go_at_call 28; refine (RH.out _ (cell_later HB0.out D1.out) (cell_later HB0.out D2.out) (cell_later HB0.out D3.out) (cell_later HB0.out D4.out) (cell_later HB0.out D5.out) (cell_later HB0.out D6.out) (cell_later HB0.out D7.out) (cell_later HB0.out D8.out) (cell_later HB0.out D9.out)).mono ?_; rintro _ w1 ⟨rfl, hb1⟩; replace hb1 := hide hb1)
  go_at_call 29
  refine (CB.out _).mono ?_
  rintro _ w2 ⟨g, hg, rfl, hb2, hr2⟩
  have R1 := (rowL_alloc' w1 _ _).later hb2
  have hB2 : Hid (Below w.heap.size w w2) := by
    show Below _ _ _
    have h1 := HB0.out.trans (hb1.out.mono HB0.out.size)
    exact (h1.alloc h1.size _).trans (hb2.mono (by simp; have := h1.size; omega))
  have q1 := R1.cell 1 _ rfl
  have q2 := R1.cell 2 _ rfl
  have q3 := R1.cell 3 _ rfl
  have q4 := R1.cell 4 _ rfl
  have q5 := R1.cell 5 _ rfl
  have q6 := R1.cell 6 _ rfl
  have q0 := R1.cell 0 _ rfl
  have qs : w2.cell? ⟨g, c8, none⟩ = some (.int .i64 s) := hr2.cell c8 _ (by simp only [i64s, List.getElem?_map, hs.out]; rfl)
  have e8 : (c8 : Int) < (Z : Int) := by omega
  have w9 := wrap_i64_in ((s : Int) + (c7 : Int)) (by omega) (by omega)
  have HR1 := hide R1
  have HR2 := hide hr2
  have e9 : decide ((c9 : Int) < (s : Int) + (c7 : Int)) = false := by simp; omega
  clear R1 hb2 hr2 hg hb1
  go_wp2_with (go_at_call 27; refine (need_ok _).mono ?_; rintro _ wq ⟨rfl, hq⟩; have hq2 := hq.symm; clear hq; subst hq2)
  refine wp_region_held_drew (S := fun w' => Below w2.heap.size w2 w') (by kernel_rfl) ((Below.refl _ _).drew) (fun hS0 => ?_)
  refine wpAnyH_take (i := 0) (v := ?v1) rfl (by kernel_rfl) (by kernel_rfl) (by kernel_rfl) (fun _ _ _ h => h) (Or.inl ⟨by rfl, ?hy1⟩) (by assumption) ?rest1
  case hy1 => (intro wz hSw; go_simp; try (with_reducible rfl))
  try simp only [Act.put, List.getElem_toArray, List.getElem_cons_zero, List.getElem_cons_succ, List.setIfInBounds_toArray, List.set_cons_zero, List.set_cons_succ]
  refine wpAnyH_take (i := 1) (v := ?v2) rfl (by kernel_rfl) (by kernel_rfl) (by kernel_rfl) (fun _ _ _ h => h) (Or.inl ⟨by rfl, ?hy2⟩) (by assumption) ?rest2
  case hy2 => (intro wz hSw; have hcz := cell_later hSw q6; go_simp; try (with_reducible rfl))
  try simp only [Act.put, List.getElem_toArray, List.getElem_cons_zero, List.getElem_cons_succ, List.setIfInBounds_toArray, List.set_cons_zero, List.set_cons_succ]
  refine wpAnyH_take (i := 2) (v := ?v3) rfl (by kernel_rfl) (by kernel_rfl) (by kernel_rfl) (fun _ _ _ h => h) (Or.inl ⟨by rfl, ?hy3⟩) (by assumption) ?rest3
  case hy3 => (intro wz hSw; go_simp; try (with_reducible rfl))
  try simp only [Act.put, List.getElem_toArray, List.getElem_cons_zero, List.getElem_cons_succ, List.setIfInBounds_toArray, List.set_cons_zero, List.set_cons_succ]
  refine wpAnyH_take (i := 3) (v := ?v4) rfl (by kernel_rfl) (by kernel_rfl) (by kernel_rfl) (fun _ _ _ h => h) (Or.inl ⟨by rfl, ?hy4⟩) (by assumption) ?rest4
  case hy4 => (intro wz hSw; go_simp; try (with_reducible rfl))
  try simp only [Act.put, List.getElem_toArray, List.getElem_cons_zero, List.getElem_cons_succ, List.setIfInBounds_toArray, List.set_cons_zero, List.set_cons_succ]
  refine wpAnyH_take (i := 4) (v := ?v5) rfl (by kernel_rfl) (by kernel_rfl) (by kernel_rfl) (fun _ _ _ h => h) (Or.inl ⟨by rfl, ?hy5⟩) (by assumption) ?rest5
  case hy5 => (intro wz hSw; have hcz := cell_later hSw q5; go_simp; try (with_reducible rfl))
  try simp only [Act.put, List.getElem_toArray, List.getElem_cons_zero, List.getElem_cons_succ, List.setIfInBounds_toArray, List.set_cons_zero, List.set_cons_succ]
  refine wpAnyH_take (i := 5) (v := ?v6) rfl (by kernel_rfl) (by kernel_rfl) (by kernel_rfl) (fun _ _ _ h => h) (Or.inl ⟨by rfl, ?hy6⟩) (by assumption) ?rest6
  case hy6 => (intro wz hSw; go_simp; try (with_reducible rfl))
  try simp only [Act.put, List.getElem_toArray, List.getElem_cons_zero, List.getElem_cons_succ, List.setIfInBounds_toArray, List.set_cons_zero, List.set_cons_succ]
  refine wpAnyH_take (i := 6) (v := ?v7) rfl (by kernel_rfl) (by kernel_rfl) (by kernel_rfl) (fun _ _ _ h => h) (Or.inl ⟨by rfl, ?hy7⟩) (by assumption) ?rest7
  case hy7 => (intro wz hSw; have hcz := cell_later hSw qs; go_simp; try (with_reducible rfl))
  try simp only [Act.put, List.getElem_toArray, List.getElem_cons_zero, List.getElem_cons_succ, List.setIfInBounds_toArray, List.set_cons_zero, List.set_cons_succ]
  refine wpAnyH_take (i := 7) (v := ?v8) rfl (by kernel_rfl) (by kernel_rfl) (by kernel_rfl) (fun _ _ _ h => h) (Or.inl ⟨by rfl, ?hy8⟩) (by assumption) ?rest8
  case hy8 => (intro wz hSw; go_simp; try (with_reducible rfl))
  try simp only [Act.put, List.getElem_toArray, List.getElem_cons_zero, List.getElem_cons_succ, List.setIfInBounds_toArray, List.set_cons_zero, List.set_cons_succ]
  refine wpAnyH_take (i := 8) (v := ?v9) rfl (by kernel_rfl) (by kernel_rfl) (by kernel_rfl) (fun _ _ _ h => h) (Or.inl ⟨by rfl, ?hy9⟩) (by assumption) ?rest9
  case hy9 => (intro wz hSw; go_simp; try (with_reducible rfl))
  try simp only [Act.put, List.getElem_toArray, List.getElem_cons_zero, List.getElem_cons_succ, List.setIfInBounds_toArray, List.set_cons_zero, List.set_cons_succ]
  refine wpAnyH_take (i := 9) (v := ?v10) rfl (by kernel_rfl) (by kernel_rfl) (by kernel_rfl) (fun _ _ _ h => h) (Or.inl ⟨by rfl, ?hy10⟩) (by assumption) ?rest10
  case hy10 => (intro wz hSw; have hcz := cell_later hSw q4; go_simp; try (with_reducible rfl))
  try simp only [Act.put, List.getElem_toArray, List.getElem_cons_zero, List.getElem_cons_succ, List.setIfInBounds_toArray, List.set_cons_zero, List.set_cons_succ]
  refine wpAnyH_take (i := 10) (v := ?v11) rfl (by kernel_rfl) (by kernel_rfl) (by kernel_rfl) (fun _ _ _ h => h) (Or.inl ⟨by rfl, ?hy11⟩) (by assumption) ?rest11
  case hy11 => (intro wz hSw; go_simp; try (with_reducible rfl))
  try simp only [Act.put, List.getElem_toArray, List.getElem_cons_zero, List.getElem_cons_succ, List.setIfInBounds_toArray, List.set_cons_zero, List.set_cons_succ]
  refine wpAnyH_take (i := 11) (v := ?v12) rfl (by kernel_rfl) (by kernel_rfl) (by kernel_rfl) (fun _ _ _ h => h) (Or.inl ⟨by rfl, ?hy12⟩) (by assumption) ?rest12
  case hy12 => (intro wz hSw; go_simp; try (with_reducible rfl))
  try simp only [Act.put, List.getElem_toArray, List.getElem_cons_zero, List.getElem_cons_succ, List.setIfInBounds_toArray, List.set_cons_zero, List.set_cons_succ]
  refine wpAnyH_ready (rs := [12]) (by kernel_rfl) (by simp) ?_
  refine AllReadyH.cons rfl (fun K hK => ?_) ?_
  · go_simp
    go_at_call 27
    refine (need_no _).mono ?_
    rintro _ wq ⟨rfl, hq⟩
    have hq2 := hq.symm
    clear hq
    subst hq2
    go_wp2_with fail
    exact ⟨rfl, rfl, hB2.out.drew⟩
  exact AllReadyH.nil
set_option linter.unusedSimpArgs false in
set_option maxRecDepth 20000 in
set_option maxHeartbeats 2000000 in
theorem unpack_length (b off n cap c1 c2 c3 c4 c5 c6 c7 c8 c9 L Z s : Nat) (hn : 10 < n) (h1 : c1 < 256) (h2 : c2 < 256) (h3 : c3 < 256) (h4 : c4 < 256) (h5 : c5 < 256) (h6 : c6 < 256) (h7 : c7 < 256) (h8 : c8 < 256) (h9 : c9 < 256) (w : World)
    (d0 : w.cell? ⟨b, off, none⟩ = some (.int .u8 70)) (d1 : w.cell? ⟨b, off + 1, none⟩ = some (.int .u8 c1)) (d2 : w.cell? ⟨b, off + 2, none⟩ = some (.int .u8 c2)) (d3 : w.cell? ⟨b, off + 3, none⟩ = some (.int .u8 c3)) (d4 : w.cell? ⟨b, off + 4, none⟩ = some (.int .u8 c4)) (d5 : w.cell? ⟨b, off + 5, none⟩ = some (.int .u8 c5))
    (d6 : w.cell? ⟨b, off + 6, none⟩ = some (.int .u8 c6)) (d7 : w.cell? ⟨b, off + 7, none⟩ = some (.int .u8 c7)) (d8 : w.cell? ⟨b, off + 8, none⟩ = some (.int .u8 c8)) (d9 : w.cell? ⟨b, off + 9, none⟩ = some (.int .u8 c9)) (hL : Hid (L = 256 * c3 + c4)) (hl : L ≤ 2000) (p1 : 1 ≤ c5) (p2 : c5 ≤ 16) (p3 : 1 ≤ c6) (p4 : c6 ≤ 20) (p5 : c7 ≤ 20) (hZ : Hid (Cut.blocks (Cut.pieces L c5) c6 = Z)) (hZ2 : Z ≤ 256) (hz : c8 < Z) (hs : Hid ((Cut.sizes L c5 c6)[c8]? = some s)) (hs2 : s ≤ 20) (hq : c9 < s + c7) (hnn : ¬ n = 10 + c5) :
    Calls Tryd.prog 16 #[.slice (some ⟨b, off, none⟩) n cap] w fun r w' => r = .panicked [{ v := faultV 2, recovered := false }] ∧ Below w.heap.size w w' := by
  have HB0 := hide (((Below.refl w.heap.size w).alloc (Nat.le_refl _) (.cells #[.int .i64 0, .int .i64 0, .int .i64 0, .int .i64 0, .int .i64 0, .int .i64 0, .int .i64 0] 52)))
  have k10 : (10 : Int) < (n : Int) := by omega
  have k0 : (0 : Int) < (n : Int) := by omega
  have RH := hide (readHead_walk b off n cap c1 c2 c3 c4 c5 c6 c7 c8 c9 hn h1 h2 h3 h4 h5 h6 h7 h8 h9)
  have CB := hide (fun w => (cutBlocks_walk L c5 c6 c7 hl p1 p2 p3 p4 p5 w).1 (by rw [hZ.out]; exact hZ2))
  rw [hZ.out] at CB
  have D1 := hide d1; have D2 := hide d2; have D3 := hide d3; have D4 := hide d4; have D5 := hide d5; have D6 := hide d6; have D7 := hide d7; have D8 := hide d8; have D9 := hide d9
  replace d0 := cell_later HB0.out d0
  clear d1 d2 d3 d4 d5 d6 d7 d8 d9
  unfold headV at RH
  rw [← hL.out] at RH
  go_enter Tryd.func16, Tryd.ntmps16
  go_wp2_with first | (go_at_call 27; refine (need_ok _).mono ?_; rintro _ wq ⟨rfl, hq⟩; have hq2 := hq.symm; clear hq; subst hq2) | (go_at_call 28; refine (RH.out _ (cell_later HB0.out D1.out) (cell_later HB0.out D2.out) (cell_later HB0.out D3.out) (cell_later HB0.out D4.out) (cell_later HB0.out D5.out) (cell_later HB0.out D6.out) (cell_later HB0.out D7.out) (cell_later HB0.out D8.out) (cell_later HB0.out D9.out)).mono ?_; rintro _ w1 ⟨rfl, hb1⟩; replace hb1 := hide hb1)
  go_at_call 29
  refine (CB.out _).mono ?_
  rintro _ w2 ⟨g, hg, rfl, hb2, hr2⟩
  have R1 := (rowL_alloc' w1 _ _).later hb2
  have hB2 : Hid (Below w.heap.size w w2) := by
    show Below _ _ _
    have h1 := HB0.out.trans (hb1.out.mono HB0.out.size)
    exact (h1.alloc h1.size _).trans (hb2.mono (by simp; have := h1.size; omega))
  have q1 := R1.cell 1 _ rfl
  have q2 := R1.cell 2 _ rfl
  have q3 := R1.cell 3 _ rfl
  have q4 := R1.cell 4 _ rfl
  have q5 := R1.cell 5 _ rfl
  have q6 := R1.cell 6 _ rfl
  have q0 := R1.cell 0 _ rfl
  have qs : w2.cell? ⟨g, c8, none⟩ = some (.int .i64 s) := hr2.cell c8 _ (by simp only [i64s, List.getElem?_map, hs.out]; rfl)
  have e8 : (c8 : Int) < (Z : Int) := by omega
  have w9 := wrap_i64_in ((s : Int) + (c7 : Int)) (by omega) (by omega)
  have HR1 := hide R1
  have HR2 := hide hr2
  have e9 : decide ((c9 : Int) < (s : Int) + (c7 : Int)) = true := by simp; omega
  have en : ((n : Int) == 10 + (c5 : Int)) = false := by simp; omega
  clear R1 hb2 hr2 hg hb1 hnn
  go_wp2_with (go_at_call 27; refine (need_ok _).mono ?_; rintro _ wq ⟨rfl, hq⟩; have hq2 := hq.symm; clear hq; subst hq2)
  go_quiet ((go_at_call 27; exact Calls.quiet_of_same (need_ok _)))
  have HR3 := HR1.out.drewN nq
  have HB3 : Hid (Below w.heap.size w (w2.drewN nq)) := by
    show Below _ _ _
    exact ⟨hB2.out.os, hB2.out.tape, hB2.out.output, hB2.out.size, hB2.out.block⟩
  generalize w2.drewN nq = w3 at HR3 HB3 ⊢
  clear q0 q1 q2 q3 q4 q5 q6 qs
  have q2 := HR3.cell 2 _ rfl
  clear HR3
  go_wp2_with (go_at_call 27; refine (need_no _).mono ?_; rintro _ wq ⟨rfl, hq⟩; have hq2 := hq.symm; clear hq; subst hq2)
  exact ⟨rfl, rfl, HB3.out⟩
end Go.Proofs.YtmfpiodlecapiaaDoor
