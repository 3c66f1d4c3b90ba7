/- What Packets answers: the document's packets, each in memory of its own; or a refusal. -/
import Derived.Test.YtmfpiodlecapiaaPacketsWalk
namespace Go.Proofs.Ytmfpiodlecapiaa
open Go.RowKit Go.Deep
attribute [local go_sem ↓] Go.wp_at_zero Go.wp_at_succ

theorem isId_walk (n : Int) (w : World) :
    Calls Try.prog 45 #[.int .i64 n] w fun e w' => e = .returned (.bool (decide (0 ≤ n) && decide (n ≤ 65535))) ∧ w' = w := by
  by_cases h : 0 ≤ n
  · go_enter Try.func45, Try.ntmps45
    go_wp2
    go_ret
    exact ⟨by simp [h], rfl⟩
  · go_enter Try.func45, Try.ntmps45
    go_wp2
    go_ret
    exact ⟨by have : ¬ (0 ≤ n) := by omega
              simp [this], rfl⟩

set_option maxRecDepth 20000 in
theorem fPackets_refused (ao : Option Addr) (n cap : Nat) (id s m p : Int) (h : ¬ ((n : Int) ≤ 2000 ∧ planOk s m p)) (w : World) :
    Calls Try.prog 22 #[.int .i64 id, .slice ao n cap, .agg #[.int .i64 s, .int .i64 m, .int .i64 p]] w fun e w' => e = .returned (.tuple #[.slice none 0 0, .int .i64 1]) ∧ Below w.heap.size w w' := by
  have hb0 := hide ((Below.refl w.heap.size w).alloc (Nat.le_refl _) (.cells #[.int .i64 s, .int .i64 m, .int .i64 p] 30))
  have h' : Hid (¬ (0 ≤ (n : Int) ∧ (n : Int) ≤ 2000 ∧ planOk s m p)) := fun hh => h hh.2
  clear h
  go_enter Try.func22, Try.ntmps22
  go_wp2_with (go_at_call 44; refine (cutBlocks_refused _ _ _ _ h'.out _).mono ?_; rintro _ w1 ⟨rfl, hb1⟩; replace hb1 := hide hb1)
  go_ret2
  exact ⟨rfl, hb0.out.trans (hb1.out.mono (by simp))⟩

set_option maxRecDepth 20000 in
theorem fPackets_many (ao : Option Addr) (n cap : Nat) (id : Int) (s m p : Nat) (hl : n ≤ 2000) (h1 : 1 ≤ s) (h2 : s ≤ 16) (h3 : 1 ≤ m) (h4 : m ≤ 20) (h5 : p ≤ 20) (hc : ¬ Cut.blocks (Cut.pieces n s) m ≤ 256) (w : World) :
    Calls Try.prog 22 #[.int .i64 id, .slice ao n cap, .agg #[.int .i64 s, .int .i64 m, .int .i64 p]] w fun e w' => e = .returned (.tuple #[.slice none 0 0, .int .i64 1]) ∧ Below w.heap.size w w' := by
  have hb0 := hide ((Below.refl w.heap.size w).alloc (Nat.le_refl _) (.cells #[.int .i64 s, .int .i64 m, .int .i64 p] 30))
  have C := hide (fun w => (cutBlocks_walk n s m p hl h1 h2 h3 h4 h5 w).2 hc)
  clear hc
  go_enter Try.func22, Try.ntmps22
  go_wp2_with (go_at_call 44; refine (C.out _).mono ?_; rintro _ w1 ⟨rfl, hb1⟩; replace hb1 := hide hb1)
  go_ret2
  exact ⟨rfl, hb0.out.trans (hb1.out.mono (by simp))⟩

set_option maxRecDepth 20000 in
theorem fPackets_noId (ao : Option Addr) (n cap : Nat) (id : Int) (s m p : Nat) (hid : ¬ (0 ≤ id ∧ id ≤ 65535)) (hl : n ≤ 2000) (h1 : 1 ≤ s) (h2 : s ≤ 16) (h3 : 1 ≤ m) (h4 : m ≤ 20) (h5 : p ≤ 20) (hc : Cut.blocks (Cut.pieces n s) m ≤ 256) (w : World) :
    Calls Try.prog 22 #[.int .i64 id, .slice ao n cap, .agg #[.int .i64 s, .int .i64 m, .int .i64 p]] w fun e w' => e = .returned (.tuple #[.slice none 0 0, .int .i64 1]) ∧ Below w.heap.size w w' := by
  have hb0 := hide ((Below.refl w.heap.size w).alloc (Nat.le_refl _) (.cells #[.int .i64 s, .int .i64 m, .int .i64 p] 30))
  have C := hide (fun w => (cutBlocks_walk n s m p hl h1 h2 h3 h4 h5 w).1 hc)
  have e1 : (decide (0 ≤ id) && decide (id ≤ 65535)) = false := by simp; omega
  clear hc hid
  revert C
  generalize Cut.blocks (Cut.pieces n s) m = Z
  intro C
  go_enter Try.func22, Try.ntmps22
  go_wp2_with first | (go_at_call 44; refine (C.out _).mono ?_; rintro _ w1 ⟨g, hg, rfl, hb1, hr1⟩; replace hb1 := hide hb1; replace hr1 := hide hr1) | (go_at_call 45; refine (isId_walk _ _).mono ?_; rintro _ _ ⟨rfl, rfl⟩; simp only [e1])
  go_ret2
  exact ⟨rfl, hb0.out.trans (hb1.out.mono (by simp))⟩

set_option maxRecDepth 20000 in
set_option maxHeartbeats 1000000 in
theorem fPackets_core (ao : Option Addr) (n cap id s m p Z N M c : Nat) (obj L : List Nat) (hid : id < 65536) (hl : n ≤ 2000) (h1 : 1 ≤ s) (h2 : s ≤ 16) (h3 : 1 ≤ m) (h4 : m ≤ 20) (h5 : p ≤ 20)
    (hZ : Z ≤ 256) (hLz : Hid (L.length = Z)) (hLs : Hid (L.sum = N)) (hLb : Hid (∀ k ∈ L, 1 ≤ k ∧ k ≤ m)) (hN : N ≤ 2000) (hM : (N : Int) * (s : Int) = (M : Int)) (hM2 : M ≤ 32000) (hnM : n ≤ M) (hc : (10 : Int) + (s : Int) = (c : Int))
    (C : Hid (∀ w, Calls Try.prog 44 #[.int .i64 n, .agg #[.int .i64 s, .int .i64 m, .int .i64 p]] w fun e w' =>
        ∃ g, w.heap.size ≤ g ∧ e = .returned (.tuple #[.slice (some ⟨g, 0, none⟩) Z Z, .bool true]) ∧ Below w.heap.size w w' ∧ RowL w' g 3 (i64s L))) (w : World) (hobj : ObjAt w ao n obj) :
    Calls Try.prog 22 #[.int .i64 id, .slice ao n cap, .agg #[.int .i64 s, .int .i64 m, .int .i64 p]] w fun e w' =>
      ∃ v gs, e = .returned (.tuple #[v, .int .i64 0]) ∧ Packs w' w.heap.size v c (Pk.upTo id n s m p L (Pk.filled obj M) Z) gs ∧ Below w.heap.size w w' := by
  have hb0 := hide ((Below.refl w.heap.size w).alloc (Nat.le_refl _) (.cells #[.int .i64 s, .int .i64 m, .int .i64 p] 30))
  have e1 : (decide ((0 : Int) ≤ (id : Int)) && decide ((id : Int) ≤ 65535)) = true := by simp; omega
  have HO := hide hobj
  clear hobj
  go_enter Try.func22, Try.ntmps22
  go_wp2_with first | (go_at_call 44; refine (C.out _).mono ?_; rintro _ w1 ⟨gB, hgB, rfl, hb1, hr1⟩; have hw1 : w.heap.size < w1.heap.size := (by have := hb1.size; simp at this; omega); have c0 := cell_later hb1 (cell3_0 w _ _ _ _); have c1 := cell_later hb1 (cell3_1 w _ _ _ _); have c2 := cell_later hb1 (cell3_2 w _ _ _ _); replace hb1 := hide hb1; replace hr1 := hide hr1) | (go_at_call 45; refine (isId_walk _ _).mono ?_; rintro _ w1' ⟨rfl, hx⟩; have hx' := hx.symm; subst hx'; simp only [e1])
  have hLN : Hid (∀ k, k ≤ Z → (L.take k).sum * s ≤ M) := by
    intro k _
    have h := Nat.mul_le_mul_right s (sum_take_le L k)
    rw [hLs.out] at h
    have : N * s = M := by rw [← Int.natCast_mul] at hM; omega
    omega
  have hF := hide (fillUp_walk ao n cap gB Z Z s N M obj L hLz hLs (by omega) hM (by omega) hnM (by omega) (w1.alloc (.cells #[.int .i64 id, .int .i64 n, .int .i64 s, .int .i64 m, .int .i64 p, .int .i64 0, .int .i64 0] 83))
    (((HO.out.later hb0.out).later hb1.out).later ((Below.refl _ _).alloc (Nat.le_refl _) _)) (hr1.out.alloc _))
  have hbH := hide (rowL_alloc' w1 #[.int .i64 id, .int .i64 n, .int .i64 s, .int .i64 m, .int .i64 p, .int .i64 0, .int .i64 0] 83)
  refine hF.out.mono ?_
  rintro _ w3 ⟨rfl, hb3, hr3⟩
  have hw3 : w1.heap.size + 1 < w3.heap.size := by have := hr3.lt; simp at this; exact this
  have d0 : w3.cell? ⟨w.heap.size, 0, none⟩ = some (.int .i64 s) := (hb3.cell (by simp; omega)).trans ((World.cell?_of_block (blk_alloc_lt _ _ _ (by exact hw1))).trans c0)
  have hH3 := hide (hbH.out.later hb3)
  have hB3 := hide ((hr1.out.alloc (.cells #[.int .i64 id, .int .i64 n, .int .i64 s, .int .i64 m, .int .i64 p, .int .i64 0, .int .i64 0] 83)).later hb3)
  have hF3 : Hid (RowL w3 (w1.heap.size + 1) 5 (u8s (Pk.filled obj M))) := by
    have h := hr3
    simp at h
    exact h
  have HB3 := hide hb3
  have D0 := hide d0
  clear hb3 hr3 hF c0 c1 c2 d0
  have hgB1 : gB < w1.heap.size := hr1.out.lt
  simp only [World.size_alloc]
  go_wp2
  go_loopw [10, 12, 41] (fun v rest x wr => ∃ (k a o r x5 : Nat) (gs : List Nat), k ≤ Z ∧ x = .int .i64 k ∧ rest = .slice (some ⟨w1.heap.size + 1, a, none⟩) r r ∧ (0 < r → a = o) ∧ o + r = M ∧ Hid (o = (L.take k).sum * s) ∧
      Packs wr w3.heap.size v c (Pk.upTo id n s m p L (Pk.filled obj M) k) gs ∧ Kp (fun q => q = w1.heap.size) w3 wr ∧ RowL wr w1.heap.size 83 [.int .i64 id, .int .i64 n, .int .i64 s, .int .i64 m, .int .i64 p, .int .i64 x5, .int .i64 0])
    (fun _ _ x _ => leftOf Z (intOf x).toNat)
  case atStart => exact ⟨0, 0, 0, M, 0, [], by omega, rfl, rfl, fun _ => rfl, by omega, (show 0 = _ by simp), Packs.nil _ _ _, Kp.refl _ _, hH3.out⟩
  case round =>
    obtain ⟨k, a, o, r, x5, gs, hk, rfl, rfl, hao, hor, ho, hpk, hkp, hbox⟩ := hrel
    by_cases hlt : k < Z
    · have hkL : k < L.length := by rw [hLz.out]; exact hlt
      have hKb : 1 ≤ L[k]?.getD 0 ∧ L[k]?.getD 0 ≤ m := by
        have e : L[k]?.getD 0 = L[k] := by simp [hkL]
        rw [e]; exact hLb.out _ (List.getElem_mem hkL)
      have hcnt : wr.cell? ⟨gB, k, none⟩ = some (.int .i64 ((L[k]?.getD 0 : Nat) : Int)) := (hkp.row hB3.out (by omega)).cell k _ (i64s_at hkL)
      have hsum : Hid ((L.take (k + 1)).sum * s = o + L[k]?.getD 0 * s) := by
        show _ = _
        rw [sum_take_succ (getD_some hkL), Nat.add_mul, ← ho.out]
      have hle := hLN.out (k + 1) (by omega)
      rw [hsum.out] at hle
      have hup : Hid (Pk.upTo id n s m p L (Pk.filled obj M) (k + 1) = Pk.upTo id n s m p L (Pk.filled obj M) k ++ Pk.ofBlock id n s m p k (L[k]?.getD 0) (Pk.blkAt (Pk.filled obj M) L s k)) := Pk.upTo_succ _ _ _ _ _ _ _ _
      have hfl : Hid ((Pk.filled obj M).length = M) := Pk.filled_length (by rw [HO.out.1]; exact hnM)
      have hbl : Hid ((Pk.blkAt (Pk.filled obj M) L s k).length = L[k]?.getD 0 * s) := by
        show _ = _
        unfold Pk.blkAt
        rw [List.length_take, List.length_drop, hfl.out, ← ho.out]; omega
      have hbx : ∀ x ∈ Pk.blkAt (Pk.filled obj M) L s k, x < 256 := fun x hx => Pk.filled_lt HO.out.2.1 x (List.mem_of_mem_drop (List.mem_of_mem_take hx))
      have hbD : Hid (∀ q, q < L[k]?.getD 0 * s → (Pk.filled obj M)[o + q]? = (Pk.blkAt (Pk.filled obj M) L s k)[q]?) := by
        intro q hq
        unfold Pk.blkAt
        rw [List.getElem?_take, if_pos hq, List.getElem?_drop, ← ho.out]
      obtain ⟨blk, hblk⟩ : ∃ blk, blk = Pk.blkAt (Pk.filled obj M) L s k := ⟨_, rfl⟩
      obtain ⟨K, hKK⟩ : ∃ K, K = L[k]?.getD 0 := ⟨_, rfl⟩
      rw [← hblk] at hup hbl hbx hbD
      rw [← hKK] at hcnt hsum hle hKb hup hbl hbD
      clear hKK hblk
      obtain ⟨nn, hnn⟩ : ∃ nn, nn = K * s := ⟨_, rfl⟩
      have hKs : (K : Int) * (s : Int) = (nn : Int) := by rw [hnn]; simp
      rw [← hnn] at hle hsum hbD hbl
      have hNN := hide hnn
      have hnr : nn ≤ r := by omega
      have hnn1 : 1 ≤ nn := by
        have := Nat.mul_le_mul hKb.1 h1
        omega
      have ha := hao (by omega)
      subst ha
      clear hao
      obtain ⟨T, hT⟩ : ∃ T : Nat, (K : Int) + (p : Int) = (T : Int) := ⟨K + p, by omega⟩
      clear hnn hkL
      have e0 := hbox.cell 0 _ rfl
      have e1 := hbox.cell 1 _ rfl
      have e2 := hbox.cell 2 _ rfl
      have e3 := hbox.cell 3 _ rfl
      have e4 := hbox.cell 4 _ rfl
      have e5 := hbox.cell 5 _ rfl
      have e6 := hbox.cell 6 _ rfl
      have f5 := hbox.frozen 5
      have d0 : wr.cell? ⟨w.heap.size, 0, none⟩ = some (.int .i64 s) := (World.cell?_of_block (hkp.block w.heap.size (by omega) (by omega))).trans D0.out
      have hpl : (Pk.upTo id n s m p L (Pk.filled obj M) k).length ≤ 65536 := by
        rw [Pk.upTo_length _ _ _ _ _ _ _ k (by rw [hLz.out]; omega)]
        have h8 := sum_take_le L k
        rw [hLs.out] at h8
        have h9 : k * p ≤ 256 * 20 := Nat.mul_le_mul (by omega) h5
        omega
      have hbw := hkp.row hF3.out (by omega)
      have hpk' := hpk.setCell (i := 5) hbox (by decide) (by decide) (.int .i64 k)
      have hsz : Hid ((wr.setCell ⟨w1.heap.size, 5, none⟩ (.int .i64 k)).heap.size = wr.heap.size) := by show _ = _; simp [World.setCell]
      have hAP := hide (appendPackets_walk (w1.heap.size + 1) a r id n s m p k 0 K nn T c w3.heap.size (Pk.filled obj M) blk gs u10 _ hid (by omega) h1 h2 h4 h5 (by omega) hKb.1 (by omega) (by show _ = _; rw [hbl.out, hNN.out]) hNN hbx (by omega) hnr (by omega) hT hc
        (wr.setCell ⟨w1.heap.size, 5, none⟩ (.int .i64 k)).drew ((hbw.other (by simp) _).drew) hbD (hpk'.of_block (fun _ _ => rfl) (fun _ _ => rfl)) (by have := hkp.size; have := hsz.out; show _ ≤ (wr.setCell _ _).heap.size; omega) hpl)
      have hbox' := hide (hbox.set 5 (.int .i64 k))
      have hkp' := hide ((hkp.setCell (a := ⟨w1.heap.size, 5, none⟩) (Or.inl rfl) (.int .i64 k)).drew)
      have HPK := hide hpk'
      have hk0 : (0 : Int) ≤ (k : Int) := by omega
      have hk1 : (k : Int) < (Z : Int) := by omega
      have hn0 : (0 : Int) ≤ (nn : Int) := by omega
      have hn1 : (nn : Int) ≤ (r : Int) := by omega
      have hwn : IntKind.i64.wrap (nn : Int) = (nn : Int) := wrap_i64_in _ (by omega) (by omega)
      clear hpk hkp hbox hbw hpk' hpl hbx
      go_wp2_with fail
      go_region_with (go_at_call 47; refine hAP.out.mono ?_; rintro _ w4 ⟨v4, gs4, rfl, hpk4, hkp4⟩)
      all_goals
        have hat := HPK.out.at_
        have hkq : Kp (fun q => q = w1.heap.size) w3 w4 := hkp'.out.join hkp4 (fun q hq => Or.inr (hat q hq))
        have d4 : w4.cell? ⟨w.heap.size, 0, none⟩ = some (.int .i64 s) := (World.cell?_of_block (hkq.block w.heap.size (by omega) (by omega))).trans D0.out
        have hb4 := hkp4.row hbox'.out.drew (fun h => by have := hat _ h; omega)
        have HP4 := hide hpk4
        have HK4 := hide hkq
        have HB4 := hide hb4
        clear hpk4 hkp4 hat hkq hb4 d0 e0 e1 e2 e3 e4 e5 e6 f5
        go_wp2
        go_roundw
        case rel =>
          refine ⟨k + 1, if r = nn then a else a + nn, a + nn, r - nn, k, gs4, by omega, by go_num, ?_, ?_, by omega, ?_, ?_, HK4.out, HB4.out⟩
          · split <;> rfl
          · intro hr; rw [if_neg (by omega)]
          · show a + nn = _; rw [hsum.out]
          · have h9 := HP4.out; rw [← hup.out] at h9; exact h9
        case measure => refine leftOf_lt ?_ ?_ <;> simp only [intOf] <;> omega
    · have e : k = Z := by omega
      subst e
      have HPK := hide hpk; have HKP := hide hkp
      clear hpk hkp hbox
      go_wp2
      go_ret2
      refine ⟨_, gs, rfl, HPK.out.mono ?_, ?_⟩
      · have := hb1.out.size; omega
      · have h1 := hb0.out.trans (hb1.out.mono (by simp))
        have h2 := (h1.alloc (by omega) (.cells #[.int .i64 id, .int .i64 n, .int .i64 s, .int .i64 m, .int .i64 p, .int .i64 0, .int .i64 0] 83)).trans (HB3.out.mono (by simp; omega))
        exact h2.trans (HKP.out.toBelow (by intro q hq; omega) (by omega))

theorem fPackets_walk (ao : Option Addr) (n cap id s m p : Nat) (obj : List Nat) (hid : id < 65536) (hl : n ≤ 2000) (h1 : 1 ≤ s) (h2 : s ≤ 16) (h3 : 1 ≤ m) (h4 : m ≤ 20) (h5 : p ≤ 20) (hc : Cut.blocks (Cut.pieces n s) m ≤ 256) (w : World) (hobj : ObjAt w ao n obj) :
    Calls Try.prog 22 #[.int .i64 id, .slice ao n cap, .agg #[.int .i64 s, .int .i64 m, .int .i64 p]] w fun e w' =>
      ∃ v gs, e = .returned (.tuple #[v, .int .i64 0]) ∧ Packs w' w.heap.size v (10 + s) (Pk.packets id obj s m p) gs ∧ Below w.heap.size w w' := by
  have hp1 := Cut.pieces_le hl h1
  have hM2 : Cut.pieces n s * s ≤ 32000 := Nat.le_trans (Nat.mul_le_mul hp1 h2) (by omega)
  have hP : Pk.packets id obj s m p = Pk.upTo id n s m p (Cut.sizes n s m) (Pk.filled obj (Cut.pieces n s * s)) (Cut.blocks (Cut.pieces n s) m) := by
    unfold Pk.packets
    rw [hobj.1, Cut.sizes_length]
  rw [hP]
  exact fPackets_core ao n cap id s m p (Cut.blocks (Cut.pieces n s) m) (Cut.pieces n s) (Cut.pieces n s * s) (10 + s) obj (Cut.sizes n s m) hid hl h1 h2 h3 h4 h5 hc (Cut.sizes_length _ _ _) (Cut.sizes_sum h3) (Cut.sizes_bounds h3) hp1 (by simp) hM2 (Cut.pieces_cover h1) (by omega)
    (fun w => (cutBlocks_walk n s m p hl h1 h2 h3 h4 h5 w).1 hc) w hobj
end Go.Proofs.Ytmfpiodlecapiaa
