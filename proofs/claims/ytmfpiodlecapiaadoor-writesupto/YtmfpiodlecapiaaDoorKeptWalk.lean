/- What the caller kept is as it wrote it: the looks at all lists that came out, and at all that were handed in, answer true; they write nothing. -/
import Derived.Test.YtmfpiodlecapiaaDoorKeepNums
import Derived.Test.YtmfpiodlecapiaaDoorWholeFacts
import Derived.BigQuiet
namespace Go.Proofs.YtmfpiodlecapiaaDoor
open Go.RowKit Go.Deep

def dig (n i : Nat) : Nat := 1 + n / 250 ^ (i % 3) % 250
def digs (n m : Nat) : List Value := (List.range m).map (fun i => Value.int .u8 (dig n i : Nat))
theorem digs_at {n m i : Nat} (h : i < m) : (digs n m)[i]? = some (.int .u8 (dig n i : Nat)) := by simp [digs, h]
theorem digs_length (n m : Nat) : (digs n m).length = m := by simp [digs]
theorem dig_lt (n i : Nat) : dig n i < 251 := by unfold dig; omega

theorem digit_walk (n i : Nat) (hn : n < 4611686018427387904) (hi : i < 4611686018427387904) (w : World) :
    Calls Tryd.prog 25 #[.int .i64 n, .int .i64 i] w fun e w' => e = .returned (.int .u8 (dig n i : Nat)) ∧ w' = w := by
  have hr : i % 3 < 3 := Nat.mod_lt _ (by omega)
  have e3 : ((i : Int)) % 3 = ((i % 3 : Nat) : Int) := by simp
  obtain ⟨D, hD⟩ : ∃ D, D = dig n i := ⟨_, rfl⟩
  rw [← hD]
  unfold dig at hD
  revert hr e3 hD
  generalize i % 3 = r
  intro hr e3 hD
  have HD := hide hD
  clear hD
  go_enter Tryd.func25, Tryd.ntmps25
  go_wp2
  go_loop [0, 5] (fun x y => ∃ k q : Nat, k ≤ r ∧ y = .int .i64 k ∧ x = .int .i64 q ∧ q < 4611686018427387904 ∧ Hid (q = n / 250 ^ (r - k))) (fun _ y => (intOf y).toNat)
  case atStart => exact ⟨r, n, Nat.le_refl _, by rw [e3], rfl, hn, (show n = _ by simp)⟩
  case round =>
    obtain ⟨k, q, hk, rfl, rfl, hq, hqe⟩ := hrel
    by_cases hk0 : 0 < k
    · obtain ⟨y, hy⟩ : ∃ y, y = q / 250 := ⟨_, rfl⟩
      have e : (q : Int) / 250 = (y : Int) := by rw [hy]; simp
      have hq2 : y < 4611686018427387904 := by rw [hy]; exact Nat.lt_of_le_of_lt (Nat.div_le_self _ _) hq
      have hY := hide hy
      clear hy
      go_wp2
      go_round
      case rel =>
        refine ⟨k - 1, y, by omega, by go_num, by first | rfl | rw [e], hq2, ?_⟩
        show y = _
        rw [hY.out, hqe.out, show r - (k - 1) = r - k + 1 by omega, Nat.pow_succ, Nat.div_div_eq_div_mul]
      case measure => simp only [intOf]; omega
    · have ek : k = 0 := by omega
      subst ek
      obtain ⟨z, hz⟩ : ∃ z, z = q % 250 := ⟨_, rfl⟩
      have e : (q : Int) % 250 = (z : Int) := by rw [hz]; simp
      have hz2 : z < 250 := by rw [hz]; exact Nat.mod_lt _ (by omega)
      have hE : Hid ((D : Int) = 1 + (z : Int)) := by
        show _ = _
        have := hqe.out
        simp at this
        rw [HD.out, hz, this]
        simp
      clear hz
      have hw : IntKind.u8.wrap (1 + (z : Int)) = 1 + (z : Int) := wrap_u8_in _ (by omega) (by omega)
      go_wp2
      go_ret
      refine ⟨?_, rfl⟩
      rw [hE.out]
      rfl

theorem digit_walkI (n : Nat) (i : Int) (hn : n < 4611686018427387904) (h0 : 0 ≤ i) (hi : i < 4611686018427387904) (w : World) :
    Calls Tryd.prog 25 #[.int .i64 n, .int .i64 i] w fun e w' => e = .returned (.int .u8 (dig n i.toNat : Nat)) ∧ w' = w := by
  obtain ⟨k, rfl⟩ := Int.eq_ofNat_of_zero_le h0
  exact digit_walk n k hn (by omega) w

structure Kept (w : World) (p : Nat) (d : Wd) (vn : Value) (bs ls ns ts gs : List Value) : Prop where
  row : RowL w p 29 (d.row vn)
  obs : OwnS w 27 d.bytes bs
  ebs : ∀ (i : Nat) (sv : Value), bs[i]? = some sv → ∃ m, OwnS w 5 sv (digs (i / 4 * 4) m)
  ols : OwnS w 24 d.lists ls
  els : ∀ (i : Nat) (sv : Value), ls[i]? = some sv → ∃ m mv, OwnS w 27 sv (List.replicate m mv) ∧ OwnS w 5 mv (digs (i / 4 * 4) 3)
  ons : OwnS w 57 vn ns
  ens : ∀ (i : Nat) (sv : Value), ns[i]? = some sv → ∃ m, OwnS w 3 sv (List.replicate m (valOf i))
  ots : OwnS w 27 d.turned ts
  ets : ∀ (i : Nat) (sv : Value), ts[i]? = some sv → ∃ m, OwnS w 5 sv (List.replicate m (.int .u8 251))
  ogs : OwnS w 24 d.given gs
  egs : ∀ (i : Nat) (sv : Value), gs[i]? = some sv → ∃ L, OwnS w 27 sv L ∧ ∀ (k : Nat) (u : Value), L[k]? = some u → ∃ g o c, u = .slice (some ⟨g, o, none⟩) 6 c ∧ ObjAt w (some ⟨g, o, none⟩) 6 [116, 117, 114, 110, 101, 100]

set_option maxRecDepth 20000 in
set_option maxHeartbeats 1000000 in
theorem handed_walk (p : Nat) (d : Wd) (vn : Value) (bs ls ns ts gs : List Value) (w : World) (h : Kept w p d vn bs ls ns ts gs) :
    Calls Tryd.prog 26 #[.pointer (some ⟨p, 0, none⟩)] w fun e w' => e = .returned (.bool true) ∧ w' = w := by
  obtain ⟨T, hT⟩ : ∃ T, T = ts.length := ⟨_, rfl⟩
  obtain ⟨G, hG⟩ : ∃ T, T = gs.length := ⟨_, rfl⟩
  obtain ⟨ta, tc, ht⟩ := h.ots.shape
  obtain ⟨ga, gc, hg⟩ := h.ogs.shape
  rw [← hT] at ht
  rw [← hG] at hg
  have c4 := h.row.cell 4 _ rfl
  have c5 := h.row.cell 5 _ rfl
  rw [ht] at c4
  rw [hg] at c5
  have HT := hide hT; have HG := hide hG; have H := hide h
  have Ht := hide ht; have Hg := hide hg
  clear hT hG h ht hg
  go_enter Tryd.func26, Tryd.ntmps26
  go_wp2
  go_loop [3] (fun x => ∃ i : Nat, i ≤ T ∧ x = .int .i64 i) (fun x => leftOf T (intOf x).toNat)
  case atStart => exact ⟨0, by omega, rfl⟩
  case round =>
    obtain ⟨i, hi, rfl⟩ := hrel
    by_cases hiT : i < T
    · obtain ⟨g, cap, cur, e1, r1, l1, l2, l3, l4⟩ := H.out.ots.open' (by rw [← HT.out]; omega)
      rw [Ht.out] at e1
      injection e1 with e1 e2 e3; clear e2
      subst e1; subst e3
      obtain ⟨sv, hsv⟩ : ∃ sv, ts[i]? = some sv := ⟨ts[i]'(by rw [← HT.out]; exact hiT), List.getElem?_eq_getElem _⟩
      obtain ⟨m, hm⟩ := H.out.ets i sv hsv
      obtain ⟨sa, sc, hsh⟩ := hm.shape
      rw [List.length_replicate] at hsh
      subst hsh
      have k1 := r1.cell i _ (take_at l4 hsv)
      have hTm : (i : Int) < 9223372036854775807 := by have := HT.out; unfold maxLen at l2; omega
      have HM := hide hm
      clear r1 l1 l2 l3 l4 hsv hm
      go_wp2_with fail
      go_loop [4] (fun x => ∃ k : Nat, k ≤ m ∧ x = .int .i64 k) (fun x => leftOf m (intOf x).toNat)
      case atStart => exact ⟨0, by omega, rfl⟩
      case round =>
        obtain ⟨k, hk, rfl⟩ := hrel
        by_cases hkm : k < m
        · obtain ⟨g2, cap2, cur2, e1, r1, l1, l2, l3, l4⟩ := HM.out.open' (by rw [List.length_replicate]; omega)
          injection e1 with e1 e2 e3; clear e2
          subst e1; subst e3
          have k2 := r1.cell k (.int .u8 251) (take_at l4 (by simp [hkm]))
          have hm2 : (k : Int) < 9223372036854775807 := by rw [List.length_replicate] at l1; unfold maxLen at l2; omega
          clear r1 l1 l2 l3 l4
          go_wp2_with fail
          go_round
          case rel => exact ⟨k + 1, by omega, by go_num⟩
          case measure => refine leftOf_lt ?_ ?_ <;> simp only [intOf] <;> omega
        · have hk' : ¬ (k : Int) < (m : Int) := by omega
          go_wp2_with fail
          go_round
          case rel => exact ⟨i + 1, by omega, by go_num⟩
          case measure => refine leftOf_lt ?_ ?_ <;> simp only [intOf] <;> omega
    · have hk' : ¬ (i : Int) < (T : Int) := by omega
      go_wp2_with fail
      go_loop [5] (fun x => ∃ i : Nat, i ≤ G ∧ x = .int .i64 i) (fun x => leftOf G (intOf x).toNat)
      case atStart => exact ⟨0, by omega, rfl⟩
      case round =>
        obtain ⟨j, hj, rfl⟩ := hrel
        by_cases hjG : j < G
        · obtain ⟨g, cap, cur, e1, r1, l1, l2, l3, l4⟩ := H.out.ogs.open' (by rw [← HG.out]; omega)
          rw [Hg.out] at e1
          injection e1 with e1 e2 e3; clear e2
          subst e1; subst e3
          obtain ⟨sv, hsv⟩ : ∃ sv, gs[j]? = some sv := ⟨gs[j]'(by rw [← HG.out]; exact hjG), List.getElem?_eq_getElem _⟩
          obtain ⟨L, hm, hL⟩ := H.out.egs j sv hsv
          obtain ⟨sa, sc, hsh⟩ := hm.shape
          obtain ⟨m, em⟩ : ∃ m, m = L.length := ⟨_, rfl⟩
          rw [← em] at hsh
          subst hsh
          have k1 := r1.cell j _ (take_at l4 hsv)
          have hTm : (j : Int) < 9223372036854775807 := by have := HG.out; unfold maxLen at l2; omega
          have HM := hide hm; have HL := hide hL; have Em := hide em
          clear r1 l1 l2 l3 l4 hsv hm hL em
          go_wp2_with fail
          go_loop [6] (fun x => ∃ k : Nat, k ≤ m ∧ x = .int .i64 k) (fun x => leftOf m (intOf x).toNat)
          case atStart => exact ⟨0, by omega, rfl⟩
          case round =>
            obtain ⟨k, hk, rfl⟩ := hrel
            by_cases hkm : k < m
            · obtain ⟨g2, cap2, cur2, e1, r1, l1, l2, l3, l4⟩ := HM.out.open' (by rw [← Em.out]; omega)
              injection e1 with e1 e2 e3; clear e2
              subst e1; subst e3
              obtain ⟨u, hu⟩ : ∃ u, L[k]? = some u := ⟨L[k]'(by rw [← Em.out]; exact hkm), List.getElem?_eq_getElem _⟩
              obtain ⟨g3, o3, c3, rfl, ho⟩ := HL.out k u hu
              have k2 := r1.cell k _ (take_at l4 hu)
              have hm2 : (k : Int) < 9223372036854775807 := by have := Em.out; unfold maxLen at l2; omega
              have hcv : (convert 27 9 (.slice (some ⟨g3, o3, none⟩) 6 c3)).run Tryd.prog w = .ok (.string ⟨#[116, 117, 114, 110, 101, 100]⟩) w := by rw [conv_obj ho]; rfl
              clear r1 l1 l2 l3 l4 hu ho
              go_wp2_with fail
              go_round
              case rel => exact ⟨k + 1, by omega, by go_num⟩
              case measure => refine leftOf_lt ?_ ?_ <;> simp only [intOf] <;> omega
            · have hk' : ¬ (k : Int) < (m : Int) := by omega
              go_wp2_with fail
              go_round
              case rel => exact ⟨j + 1, by omega, by go_num⟩
              case measure => refine leftOf_lt ?_ ?_ <;> simp only [intOf] <;> omega
        · have hk' : ¬ (j : Int) < (G : Int) := by omega
          go_wp2_with fail
          go_ret
          exact ⟨rfl, rfl⟩

def Dr (w wr : World) : Prop := ∃ nq, wr = w.drewN nq
theorem Dr.cell {w wr : World} (h : Dr w wr) (a : Addr) : wr.cell? a = w.cell? a := by obtain ⟨n, rfl⟩ := h; rfl
theorem Dr.more {w wr : World} (h : Dr w wr) (m : Nat) : Dr w (wr.drewN m) := by obtain ⟨n, rfl⟩ := h; exact ⟨n + m, by simp⟩
theorem Kept.drewN {w : World} {p : Nat} {d : Wd} {vn : Value} {bs ls ns ts gs : List Value} (h : Kept w p d vn bs ls ns ts gs) (n : Nat) : Kept (w.drewN n) p d vn bs ls ns ts gs :=
  ⟨h.row, h.obs, h.ebs, h.ols, h.els, h.ons, h.ens, h.ots, h.ets, h.ogs, h.egs⟩

theorem Kept.dr {w wr : World} {p : Nat} {d : Wd} {vn : Value} {bs ls ns ts gs : List Value} (h : Kept w p d vn bs ls ns ts gs) (hd : Dr w wr) : Kept wr p d vn bs ls ns ts gs := by
  obtain ⟨n, rfl⟩ := hd; exact h.drewN n

set_option maxRecDepth 20000 in
set_option maxHeartbeats 1600000 in
theorem kept_walk (p : Nat) (d : Wd) (vn : Value) (bs ls ns ts gs : List Value) (w : World) (h : Kept w p d vn bs ls ns ts gs) (hB4 : bs.length < 4611686018427387904) (hL4 : ls.length < 4611686018427387904) (hN4 : ns.length < 4611686018427387904) (hm4 : ∀ (i m : Nat) (sv : Value), bs[i]? = some sv → OwnS w 5 sv (digs (i / 4 * 4) m) → m < 4611686018427387904) :
    Calls Tryd.prog 13 #[.pointer (some ⟨p, 0, none⟩)] w fun e w' => e = .returned (.bool true) ∧ ∃ nq, w' = w.drewN nq := by
  obtain ⟨B, hB⟩ : ∃ T, T = bs.length := ⟨_, rfl⟩
  obtain ⟨N, hN⟩ : ∃ T, T = ns.length := ⟨_, rfl⟩
  obtain ⟨G, hG⟩ : ∃ T, T = ls.length := ⟨_, rfl⟩
  rw [← hB] at hB4
  rw [← hN] at hN4
  rw [← hG] at hL4
  obtain ⟨ta, tc, ht⟩ := h.obs.shape
  obtain ⟨na, nc, hn⟩ := h.ons.shape
  obtain ⟨ga, gc, hg⟩ := h.ols.shape
  rw [← hB] at ht
  rw [← hN] at hn
  rw [← hG] at hg
  have c1 := h.row.cell 1 _ rfl
  have c3 := h.row.cell 3 _ rfl
  have c2 := h.row.cell 2 _ rfl
  rw [ht] at c1
  rw [hn] at c3
  rw [hg] at c2
  have HB := hide hB; have HN := hide hN; have HG := hide hG; have H := hide h
  have Ht := hide ht; have Hn := hide hn; have Hg := hide hg; have Hm4 := hide hm4
  have C1 := hide c1; have C2 := hide c2; have C3 := hide c3
  clear hB hN hG h ht hn hg c1 c2 c3 hm4
  go_enter Tryd.func13, Tryd.ntmps13
  go_wp2_with fail
  go_loopw [3] (fun x wr => ∃ i : Nat, i ≤ B ∧ x = .int .i64 i ∧ Dr w wr) (fun x _ => leftOf B (intOf x).toNat)
  case atStart => exact ⟨0, by omega, rfl, 0, rfl⟩
  case round =>
    obtain ⟨i, hi, rfl, hdr⟩ := hrel; replace hdr := hide hdr
    by_cases hiT : i < B
    · obtain ⟨g, cap, cur, e1, r1, l1, l2, l3, l4⟩ := H.out.obs.open' (by rw [← HB.out]; omega)
      rw [Ht.out] at e1
      injection e1 with e1 e2 e3; clear e2
      subst e1; subst e3
      obtain ⟨sv, hsv⟩ : ∃ sv, bs[i]? = some sv := ⟨bs[i]'(by rw [← HB.out]; exact hiT), List.getElem?_eq_getElem _⟩
      obtain ⟨m, hm⟩ := H.out.ebs i sv hsv
      have hm62 := Hm4.out i m sv hsv hm
      obtain ⟨n4, hn4⟩ : ∃ n4, n4 = i / 4 * 4 := ⟨_, rfl⟩
      rw [← hn4] at hm
      obtain ⟨sa, sc, hsh⟩ := hm.shape
      rw [digs_length] at hsh
      subst hsh
      have c1 : wr.cell? ⟨p, 1, none⟩ = _ := (hdr.out.cell _).trans C1.out
      have k1 := (hdr.out.cell _).trans (r1.cell i _ (take_at l4 hsv))
      have HM := hide hm; have HN4 := hide hn4; have R1 := hide (r1.cell i _ (take_at l4 hsv))
      clear r1 l1 l2 l3 l4 hsv hm hn4
      go_wp2_with fail
      go_loopw [4] (fun x wr => ∃ k : Nat, k ≤ m ∧ x = .int .i64 k ∧ Dr w wr) (fun x _ => leftOf m (intOf x).toNat)
      case atStart => exact ⟨0, by omega, rfl, hdr.out⟩
      case round =>
        clear c1 k1
        obtain ⟨k, hk, rfl, hdr⟩ := hrel; replace hdr := hide hdr
        have c1 : wr.cell? ⟨p, 1, none⟩ = _ := (hdr.out.cell _).trans C1.out
        have k1 : wr.cell? ⟨g, i, none⟩ = _ := (hdr.out.cell _).trans R1.out
        by_cases hkm : k < m
        · obtain ⟨g2, cap2, cur2, e1, r1, l1, l2, l3, l4⟩ := HM.out.open' (by rw [digs_length]; omega)
          injection e1 with e1 e2 e3; clear e2
          subst e1; subst e3
          have k2 := (hdr.out.cell _).trans (r1.cell k _ (take_at l4 (digs_at hkm)))
          have i0 : (0 : Int) ≤ (i : Int) := by omega
          have k0 : (0 : Int) ≤ (k : Int) := by omega
          have kB : (i : Int) < (B : Int) := by omega
          have km : (k : Int) < (m : Int) := by omega
          have v1 : (i : Int) / 4 * 4 = (n4 : Int) := by have := HN4.out; omega
          have n62 : n4 < 4611686018427387904 := by have := HN4.out; omega
          have v2 : IntKind.i64.wrap ((i : Int) / 4) = (i : Int) / 4 := wrap_i64_in _ (by omega) (by omega)
          have v3 : IntKind.i64.wrap (n4 : Int) = (n4 : Int) := wrap_i64_in _ (by omega) (by omega)
          clear r1 l1 l2 l3 l4
          go_wp2_with fail
          go_quiet ((go_at_call 25; exact Calls.quiet_of_same (digit_walk _ _ (by omega) (by omega) _)))
          go_wp2_with fail
          go_roundw
          case rel => exact ⟨k + 1, by omega, by go_num, hdr.out.more _⟩
          case measure => refine leftOf_lt ?_ ?_ <;> simp only [intOf] <;> omega
        · have hk' : ¬ (k : Int) < (m : Int) := by omega
          go_wp2_with fail
          go_roundw
          case rel => exact ⟨i + 1, by omega, by go_num, hdr.out⟩
          case measure => refine leftOf_lt ?_ ?_ <;> simp only [intOf] <;> omega
    · have hk' : ¬ (i : Int) < (B : Int) := by omega
      have c1 : wr.cell? ⟨p, 1, none⟩ = _ := (hdr.out.cell _).trans C1.out
      go_wp2_with fail
      clear c1
      go_loopw [5] (fun x wr => ∃ i : Nat, i ≤ N ∧ x = .int .i64 i ∧ Dr w wr) (fun x _ => leftOf N (intOf x).toNat)
      case atStart => exact ⟨0, by omega, rfl, hdr.out⟩
      case round =>
        obtain ⟨j, hj, rfl, hdr⟩ := hrel; replace hdr := hide hdr
        have c3 : wr.cell? ⟨p, 3, none⟩ = _ := (hdr.out.cell _).trans C3.out
        by_cases hjN : j < N
        · obtain ⟨g, cap, cur, e1, r1, l1, l2, l3, l4⟩ := H.out.ons.open' (by rw [← HN.out]; omega)
          rw [Hn.out] at e1
          injection e1 with e1 e2 e3; clear e2
          subst e1; subst e3
          obtain ⟨sv, hsv⟩ : ∃ sv, ns[j]? = some sv := ⟨ns[j]'(by rw [← HN.out]; exact hjN), List.getElem?_eq_getElem _⟩
          obtain ⟨m, hm⟩ := H.out.ens j sv hsv
          obtain ⟨n4, hn4⟩ : ∃ n4, n4 = j / 4 * 4 := ⟨_, rfl⟩
          have ev : valOf j = .int .i64 (-1 - (n4 : Int)) := by unfold valOf; rw [hn4]
          rw [ev] at hm
          obtain ⟨sa, sc, hsh⟩ := hm.shape
          rw [List.length_replicate] at hsh
          subst hsh
          have k1 := (hdr.out.cell _).trans (r1.cell j _ (take_at l4 hsv))
          have HM := hide hm; have HN4 := hide hn4; have R1 := hide (r1.cell j _ (take_at l4 hsv))
          clear r1 l1 l2 l3 l4 hsv hm hn4 ev
          go_wp2_with fail
          go_loopw [6] (fun x wr => ∃ k : Nat, k ≤ m ∧ x = .int .i64 k ∧ Dr w wr) (fun x _ => leftOf m (intOf x).toNat)
          case atStart => exact ⟨0, by omega, rfl, hdr.out⟩
          case round =>
            clear c3 k1
            obtain ⟨k, hk, rfl, hdr⟩ := hrel; replace hdr := hide hdr
            have c3 : wr.cell? ⟨p, 3, none⟩ = _ := (hdr.out.cell _).trans C3.out
            have k1 : wr.cell? ⟨g, j, none⟩ = _ := (hdr.out.cell _).trans R1.out
            by_cases hkm : k < m
            · obtain ⟨g2, cap2, cur2, e1, r1, l1, l2, l3, l4⟩ := HM.out.open' (by rw [List.length_replicate]; omega)
              injection e1 with e1 e2 e3; clear e2
              subst e1; subst e3
              have k2 := (hdr.out.cell _).trans (r1.cell k (.int .i64 (-1 - (n4 : Int))) (take_at l4 (by simp [hkm])))
              have hm2 : (k : Int) < 9223372036854775807 := by rw [List.length_replicate] at l1; unfold maxLen at l2; omega
              have v1 : (j : Int) / 4 * 4 = (n4 : Int) := by have := HN4.out; omega
              have n62 : n4 < 4611686018427387904 := by have := HN4.out; omega
              clear r1 l1 l2 l3 l4
              go_wp2_with fail
              go_roundw
              case rel => exact ⟨k + 1, by omega, by go_num, hdr.out⟩
              case measure => refine leftOf_lt ?_ ?_ <;> simp only [intOf] <;> omega
            · have hk' : ¬ (k : Int) < (m : Int) := by omega
              go_wp2_with fail
              go_roundw
              case rel => exact ⟨j + 1, by omega, by go_num, hdr.out⟩
              case measure => refine leftOf_lt ?_ ?_ <;> simp only [intOf] <;> omega
        · have hk'' : ¬ (j : Int) < (N : Int) := by omega
          go_wp2_with fail
          clear c3
          go_loopw [7] (fun x wr => ∃ i : Nat, i ≤ G ∧ x = .int .i64 i ∧ Dr w wr) (fun x _ => leftOf G (intOf x).toNat)
          case atStart => exact ⟨0, by omega, rfl, hdr.out⟩
          case round =>
            obtain ⟨q, hq, rfl, hdr⟩ := hrel; replace hdr := hide hdr
            have c2 : wr.cell? ⟨p, 2, none⟩ = _ := (hdr.out.cell _).trans C2.out
            by_cases hqG : q < G
            · obtain ⟨g, cap, cur, e1, r1, l1, l2, l3, l4⟩ := H.out.ols.open' (by rw [← HG.out]; omega)
              rw [Hg.out] at e1
              injection e1 with e1 e2 e3; clear e2
              subst e1; subst e3
              obtain ⟨sv, hsv⟩ : ∃ sv, ls[q]? = some sv := ⟨ls[q]'(by rw [← HG.out]; exact hqG), List.getElem?_eq_getElem _⟩
              obtain ⟨m, mv, hm, hmv⟩ := H.out.els q sv hsv
              obtain ⟨n4, hn4⟩ : ∃ n4, n4 = q / 4 * 4 := ⟨_, rfl⟩
              rw [← hn4] at hmv
              obtain ⟨sa, sc, hsh⟩ := hm.shape
              rw [List.length_replicate] at hsh
              subst hsh
              obtain ⟨gm, cm, curm, emv, rm, m1, m2, m3, m4⟩ := hmv.open' (by rw [digs_length]; omega)
              rw [digs_length] at emv
              subst emv
              have d0 := hide (rm.cell 0 _ (take_at m4 (digs_at (by decide))))
              have d1 := hide (rm.cell 1 _ (take_at m4 (digs_at (by decide))))
              have d2 := hide (rm.cell 2 _ (take_at m4 (digs_at (by decide))))
              have k1 := (hdr.out.cell _).trans (r1.cell q _ (take_at l4 hsv))
              have HM := hide hm; have HN4 := hide hn4; have R1 := hide (r1.cell q _ (take_at l4 hsv))
              have v1 : (q : Int) / 4 * 4 = (n4 : Int) := by have := HN4.out; omega
              have n62 : n4 < 4611686018427387904 := by have := HN4.out; omega
              clear r1 l1 l2 l3 l4 hsv hm hn4 hmv rm m1 m2 m3 m4
              go_wp2_with fail
              go_loopw [9] (fun x wr => ∃ k : Nat, k ≤ m ∧ x = .int .i64 k ∧ Dr w wr) (fun x _ => leftOf m (intOf x).toNat)
              case atStart => exact ⟨0, by omega, rfl, hdr.out⟩
              case round =>
                clear c2 k1
                obtain ⟨k, hk, rfl, hdr⟩ := hrel; replace hdr := hide hdr
                have c2 : wr.cell? ⟨p, 2, none⟩ = _ := (hdr.out.cell _).trans C2.out
                have k1 : wr.cell? ⟨g, q, none⟩ = _ := (hdr.out.cell _).trans R1.out
                by_cases hkm : k < m
                · obtain ⟨g2, cap2, cur2, e1, r1, l1, l2, l3, l4⟩ := HM.out.open' (by rw [List.length_replicate]; omega)
                  injection e1 with e1 e2 e3; clear e2
                  subst e1; subst e3
                  have k2 := (hdr.out.cell _).trans (r1.cell k (.slice (some ⟨gm, 0, none⟩) 3 cm) (take_at l4 (by simp [hkm])))
                  have hm2 : (k : Int) < 9223372036854775807 := by rw [List.length_replicate] at l1; unfold maxLen at l2; omega
                  have f0 : wr.cell? ⟨gm, 0, none⟩ = some (.int .u8 (dig n4 (Int.toNat 0) : Nat)) := (hdr.out.cell _).trans d0.out
                  have f1 : wr.cell? ⟨gm, 1, none⟩ = some (.int .u8 (dig n4 (Int.toNat 1) : Nat)) := (hdr.out.cell _).trans d1.out
                  have f2 : wr.cell? ⟨gm, 2, none⟩ = some (.int .u8 (dig n4 (Int.toNat 2) : Nat)) := (hdr.out.cell _).trans d2.out
                  clear r1 l1 l2 l3 l4
                  go_wp2_with fail
                  go_quiet ((go_at_call 25; exact Calls.quiet_of_same (digit_walkI _ _ n62 (by decide) (by decide) _)))
                  go_wp2_with fail
                  go_roundw
                  case rel => exact ⟨k + 1, by omega, by go_num, hdr.out.more _⟩
                  case measure => refine leftOf_lt ?_ ?_ <;> simp only [intOf] <;> omega
                · have hk' : ¬ (k : Int) < (m : Int) := by omega
                  go_wp2_with fail
                  go_roundw
                  case rel => exact ⟨q + 1, by omega, by go_num, hdr.out⟩
                  case measure => refine leftOf_lt ?_ ?_ <;> simp only [intOf] <;> omega
            · have hk3 : ¬ (q : Int) < (G : Int) := by omega
              go_wp2_with (go_at_call 26; refine (handed_walk p d vn bs ls ns ts gs _ (H.out.dr hdr.out)).mono ?_; rintro _ _ ⟨rfl, rfl⟩)
              go_ret
              exact ⟨rfl, hdr.out⟩
end Go.Proofs.YtmfpiodlecapiaaDoor
