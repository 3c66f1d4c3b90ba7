/- The caller's Blocks: at every length and plan the program answers as the document, and what came out is the caller's own. -/
import Derived.Test.YtmfpiodlecapiaaKeptWalk
namespace Go.Proofs.Ytmfpiodlecapiaa
open Go.RowKit Go.Deep

def BlocksPost (p N : Nat) (d : Wd) (vn : Value) (w : World) (e : Ending) (w' : World) : Prop :=
  e = .returned (.bool true) ∧ ∃ vn' ns', ns'.length % 4 = 0 ∧ ns'.length ≤ N + 4 ∧ WN w' p d vn' ns' ∧ Kp (fun k => k = p ∨ vn.ownBlock = some k) w w' ∧ (∀ q, vn'.ownBlock = some q → vn.ownBlock = some q ∨ w.heap.size ≤ q)

theorem WN.kept {w w' : World} {p N : Nat} {d : Wd} {vn : Value} {ns : List Value} (hw : WN w p d vn ns) (hN : ns.length = N) (hN4 : N % 4 = 0) (hb : Below w.heap.size w w') : BlocksPost p N d vn w (.returned (.bool true)) w' :=
  ⟨rfl, vn, ns, by omega, by omega, hw.of_kp hb, Kp.of_below hb, fun _ hq => Or.inl hq⟩

set_option maxRecDepth 20000 in
set_option maxHeartbeats 1000000 in
theorem blocks_refused (p N : Nat) (d : Wd) (vn : Value) (ns : List Value) (len s m q : Int) (h : ¬ (0 ≤ len ∧ len ≤ 2000 ∧ planOk s m q)) (w : World)
    (hw : WN w p d vn ns) (hN : ns.length = N) (hN4 : N % 4 = 0) :
    Calls Try.prog 14 #[.pointer (some ⟨p, 0, none⟩), .int .i64 len, .agg #[.int .i64 s, .int .i64 m, .int .i64 q]] w (BlocksPost p N d vn w) := by
  have R := hide (fun w' (hb : Below w.heap.size w w') => hw.kept hN hN4 hb)
  clear hw hN hN4
  have hb0 := hide ((Below.refl w.heap.size w).alloc (Nat.le_refl _) (.cells #[.int .i64 s, .int .i64 m, .int .i64 q] 30))
  have C := hide (fun w => fBlocks_refused len s m q h w)
  have e0 := cell3_0 w (.int .i64 s) (.int .i64 m) (.int .i64 q) 30
  have e1 := cell3_1 w (.int .i64 s) (.int .i64 m) (.int .i64 q) 30
  have e2 := cell3_2 w (.int .i64 s) (.int .i64 m) (.int .i64 q) 30
  have hrow := hide (rowL_alloc' w #[.int .i64 s, .int .i64 m, .int .i64 q] 30)
  have PL := hide (fun w => refPlan_walk s m q w)
  by_cases hp : planOk s m q
  · have hl : ¬ (0 ≤ len ∧ len ≤ 2000) := fun hh => h ⟨hh.1, hh.2, hp⟩
    rw [planB_true hp] at PL
    clear hp h
    by_cases h0 : len < 0
    · go_enter Try.func14, Try.ntmps14
      go_wp2_with (first | (go_at_call 23; refine (C.out _).mono ?_; rintro _ w1 ⟨rfl, hb1⟩; have g0 := (hrow.out.later hb1).cell 0 _ rfl; have g1 := (hrow.out.later hb1).cell 1 _ rfl; have g2 := (hrow.out.later hb1).cell 2 _ rfl; replace hb1 := hide hb1) | (go_at_call 34; refine (PL.out _).mono ?_; rintro _ w2 ⟨rfl, hb2⟩; replace hb2 := hide hb2))
      go_ret
      exact R.out _ ((hb0.out.trans (hb1.out.mono (by simp))).trans (hb2.out.mono (Nat.le_trans (by simp) hb1.out.size)))
    · have h1 : 2000 < len := by omega
      clear hl
      go_enter Try.func14, Try.ntmps14
      go_wp2_with (first | (go_at_call 23; refine (C.out _).mono ?_; rintro _ w1 ⟨rfl, hb1⟩; have g0 := (hrow.out.later hb1).cell 0 _ rfl; have g1 := (hrow.out.later hb1).cell 1 _ rfl; have g2 := (hrow.out.later hb1).cell 2 _ rfl; replace hb1 := hide hb1) | (go_at_call 34; refine (PL.out _).mono ?_; rintro _ w2 ⟨rfl, hb2⟩; replace hb2 := hide hb2))
      go_ret
      exact R.out _ ((hb0.out.trans (hb1.out.mono (by simp))).trans (hb2.out.mono (Nat.le_trans (by simp) hb1.out.size)))
  · rw [planB_false hp] at PL
    clear hp h
    go_enter Try.func14, Try.ntmps14
    go_wp2_with (first | (go_at_call 23; refine (C.out _).mono ?_; rintro _ w1 ⟨rfl, hb1⟩; have g0 := (hrow.out.later hb1).cell 0 _ rfl; have g1 := (hrow.out.later hb1).cell 1 _ rfl; have g2 := (hrow.out.later hb1).cell 2 _ rfl; replace hb1 := hide hb1) | (go_at_call 34; refine (PL.out _).mono ?_; rintro _ w2 ⟨rfl, hb2⟩; replace hb2 := hide hb2))
    go_ret
    exact R.out _ ((hb0.out.trans (hb1.out.mono (by simp))).trans (hb2.out.mono (Nat.le_trans (by simp) hb1.out.size)))

set_option maxRecDepth 20000 in
set_option maxHeartbeats 1000000 in
theorem blocks_many (p N Z : Nat) (d : Wd) (vn : Value) (ns : List Value) (len s m q : Nat) (hl : len ≤ 2000) (h1 : 1 ≤ s) (h2 : s ≤ 16) (h3 : 1 ≤ m) (h4 : m ≤ 20) (h5 : q ≤ 20) (hZ : Cut.blocks (Cut.pieces len s) m = Z) (hc : 256 < Z) (w : World)
    (hw : WN w p d vn ns) (hN : ns.length = N) (hN4 : N % 4 = 0) :
    Calls Try.prog 14 #[.pointer (some ⟨p, 0, none⟩), .int .i64 len, .agg #[.int .i64 s, .int .i64 m, .int .i64 q]] w (BlocksPost p N d vn w) := by
  have R := hide (fun w' (hb : Below w.heap.size w w') => hw.kept hN hN4 hb)
  clear hw hN hN4
  have hb0 := hide ((Below.refl w.heap.size w).alloc (Nat.le_refl _) (.cells #[.int .i64 s, .int .i64 m, .int .i64 q] 30))
  have C := hide (fun w => fBlocks_many len s m q hl h1 h2 h3 h4 h5 (by omega) w)
  have RB := hide (fun w => refBlocks_walk len s m q hl h1 h2 h3 h4 w)
  have hlen : Hid ((i64s (Cut.sizes len s m)).length = Z) := by show _ = _; rw [i64s_length, Cut.sizes_length, hZ]
  have e0 := cell3_0 w (.int .i64 s) (.int .i64 m) (.int .i64 q) 30
  have e1 := cell3_1 w (.int .i64 s) (.int .i64 m) (.int .i64 q) 30
  have e2 := cell3_2 w (.int .i64 s) (.int .i64 m) (.int .i64 q) 30
  have hrow := hide (rowL_alloc' w #[.int .i64 s, .int .i64 m, .int .i64 q] 30)
  have PL := hide (fun w => refPlan_walk s m q w)
  rw [planB_true ⟨by omega, by omega, by omega, by omega, by omega, by omega⟩] at PL
  clear hZ
  go_enter Try.func14, Try.ntmps14
  go_wp2_with (first | (go_at_call 23; refine (C.out _).mono ?_; rintro _ w1 ⟨rfl, hb1⟩; have hr1 := hide (hrow.out.later hb1); have g0 := hr1.out.cell 0 _ rfl; have g1 := hr1.out.cell 1 _ rfl; have g2 := hr1.out.cell 2 _ rfl; replace hb1 := hide hb1) | (go_at_call 34; refine (PL.out _).mono ?_; rintro _ w2 ⟨rfl, hb2⟩; have hr2 := hide (hr1.out.later hb2); have j0 := hr2.out.cell 0 _ rfl; have j1 := hr2.out.cell 1 _ rfl; have j2 := hr2.out.cell 2 _ rfl; replace hb2 := hide hb2) | (go_at_call 35; refine (RB.out _).mono ?_; rintro _ w3 ⟨v3, rfl, ho3, _, hb3⟩; obtain ⟨a3, c3, e3⟩ := ho3.shape; rw [hlen.out] at e3; subst e3; clear ho3; replace hb3 := hide hb3))
  go_ret
  exact R.out _ (((hb0.out.trans (hb1.out.mono (by simp))).trans (hb2.out.mono (Nat.le_trans (by simp) hb1.out.size))).trans (hb3.out.mono (Nat.le_trans (by simp) (Nat.le_trans hb1.out.size hb2.out.size))))

set_option maxRecDepth 20000 in
set_option maxHeartbeats 1000000 in
theorem blocks_good (p N Z : Nat) (d : Wd) (vn : Value) (ns : List Value) (L : List Nat) (len s m q : Nat) (hl : len ≤ 2000) (h1 : 1 ≤ s) (h2 : s ≤ 16) (h3 : 1 ≤ m) (h4 : m ≤ 20) (h5 : q ≤ 20) (hZ : Cut.blocks (Cut.pieces len s) m = Z) (hL : Cut.sizes len s m = L) (hc : Z ≤ 256) (w : World)
    (hw : WN w p d vn ns) (hN : ns.length = N) (hN4 : N % 4 = 0) (hN2 : N ≤ 1000) :
    Calls Try.prog 14 #[.pointer (some ⟨p, 0, none⟩), .int .i64 len, .agg #[.int .i64 s, .int .i64 m, .int .i64 q]] w (BlocksPost p N d vn w) := by
  have hb0 := hide ((Below.refl w.heap.size w).alloc (Nat.le_refl _) (.cells #[.int .i64 s, .int .i64 m, .int .i64 q] 30))
  have C := hide (fun w => fBlocks_walk len s m q hl h1 h2 h3 h4 h5 (by omega) w)
  have RB := hide (fun w => refBlocks_walk len s m q hl h1 h2 h3 h4 w)
  rw [hZ, hL] at C
  rw [hL] at RB
  have hLn : Hid (L.length = Z) := by show _ = _; rw [← hL, Cut.sizes_length, hZ]
  have hlen : Hid ((i64s L).length = Z) := by show _ = _; rw [i64s_length, hLn.out]
  have e0 := cell3_0 w (.int .i64 s) (.int .i64 m) (.int .i64 q) 30
  have e1 := cell3_1 w (.int .i64 s) (.int .i64 m) (.int .i64 q) 30
  have e2 := cell3_2 w (.int .i64 s) (.int .i64 m) (.int .i64 q) 30
  have hrow := hide (rowL_alloc' w #[.int .i64 s, .int .i64 m, .int .i64 q] 30)
  have PL := hide (fun w => refPlan_walk s m q w)
  rw [planB_true ⟨by omega, by omega, by omega, by omega, by omega, by omega⟩] at PL
  have HW := hide hw; have HN := hide hN
  clear hZ hL hw hN
  go_enter Try.func14, Try.ntmps14
  go_wp2_with (first | (go_at_call 23; refine (C.out _).mono ?_; rintro _ w1 ⟨gl, hgl, rfl, hb1, hrl⟩; have hr1 := hide (hrow.out.later hb1); have g0 := hr1.out.cell 0 _ rfl; have g1 := hr1.out.cell 1 _ rfl; have g2 := hr1.out.cell 2 _ rfl; replace hb1 := hide hb1; replace hrl := hide hrl; replace hgl := hide hgl) | (go_at_call 34; refine (PL.out _).mono ?_; rintro _ w2 ⟨rfl, hb2⟩; have hr2 := hide (hr1.out.later hb2); have j0 := hr2.out.cell 0 _ rfl; have j1 := hr2.out.cell 1 _ rfl; have j2 := hr2.out.cell 2 _ rfl; replace hb2 := hide hb2) | (go_at_call 35; refine (RB.out _).mono ?_; rintro _ w3 ⟨v3, rfl, ho3, _, hb3⟩; obtain ⟨a3, c3, e3⟩ := ho3.shape; rw [hlen.out] at e3; subst e3; replace ho3 := hide ho3; replace hb3 := hide hb3))
  have HB := hide (((hb0.out.trans (hb1.out.mono (by simp))).trans (hb2.out.mono (Nat.le_trans (by simp) hb1.out.size))).trans (hb3.out.mono (Nat.le_trans (by simp) (Nat.le_trans hb1.out.size hb2.out.size))))
  have HRL := hide ((hrl.out.later hb2.out).later hb3.out)
  have HGL : Hid (w.heap.size ≤ gl) := by have := hgl.out; simp at this; show _ ≤ _; omega
  clear g0 g1 g2 j0 j1 j2 hr1 hr2 hrl hgl hb1 hb2 hb3
  go_loopw [11, 12] (fun sm x wr => sm = .bool true ∧ ∃ i : Nat, i ≤ Z ∧ x = .int .i64 i ∧ Dr w3 wr) (fun _ x _ => leftOf Z (intOf x).toNat)
  case atStart => exact ⟨by simp, 0, by omega, rfl, 0, rfl⟩
  case round =>
    obtain ⟨rfl, i, hi, rfl, hdr⟩ := hrel; replace hdr := hide hdr
    by_cases hiZ : i < Z
    · obtain ⟨g, cap, cur, e1, r1, l1, l2, l3, l4⟩ := ho3.out.open' (by rw [hlen.out]; omega)
      injection e1 with e1 e2 e3; clear e2
      subst e1; subst e3
      obtain ⟨K, hK⟩ : ∃ K, K = L[i]?.getD 0 := ⟨_, rfl⟩
      have hat : (i64s L)[i]? = some (.int .i64 (K : Nat)) := by rw [hK]; exact i64s_at (by rw [hLn.out]; exact hiZ)
      have k1 := (hdr.out.cell _).trans (r1.cell i _ (take_at l4 hat))
      have k2 := (hdr.out.cell _).trans (HRL.out.cell i _ hat)
      have i0 : (0 : Int) ≤ (i : Int) := by omega
      have iZ : (i : Int) < (Z : Int) := by omega
      clear r1 l1 l2 l3 l4 hat hK
      go_wp2_with fail
      go_quiet (fail)
      go_wp2_with fail
      go_roundw
      case rel => exact ⟨by simp, i + 1, by omega, by go_num, hdr.out.more _⟩
      case measure => refine leftOf_lt ?_ ?_ <;> simp only [intOf] <;> omega
    · have ei : ¬ (i : Int) < (Z : Int) := by omega
      have hbr : Below w.heap.size w wr := by
        obtain ⟨nq, e⟩ := hdr.out
        rw [e]; exact ⟨HB.out.os, HB.out.tape, HB.out.output, HB.out.size, HB.out.block⟩
      have hrlr : RowL wr gl 3 (i64s L) := by
        obtain ⟨nq, e⟩ := hdr.out
        rw [e]; exact HRL.out.drewN nq
      have KN := hide (keepNums_walk p gl Z N d vn ns L hLn (by omega) HN hN4 hN2 wr (HW.out.of_kp hbr) hrlr (by
        intro i sv hs hg
        obtain ⟨m', _, ho⟩ := HW.out.each i sv hs
        have := ho.lt hg
        have := HGL.out
        omega))
      have HBR := hide hbr
      clear hbr hrlr
      go_wp2_with (go_at_call 36; refine KN.out.mono ?_; rintro _ w5 ⟨rfl, vn', ns', hn', hwn, hkp, hvb⟩; replace hvb := hide hvb; replace hn' := hide hn'; replace hwn := hide hwn; replace hkp := hide hkp)
      go_ret
      refine ⟨rfl, vn', ns', by rw [hn'.out]; omega, by rw [hn'.out]; exact Nat.le_refl _, hwn.out, (Kp.of_below HBR.out).join hkp.out (fun k hk => ?_), fun q hq => (hvb.out q hq).imp id (fun h => Nat.le_trans HBR.out.size h)⟩
      rcases hk with hk | hk | hk
      · exact Or.inl (Or.inl hk)
      · exact Or.inr (by rw [hk]; exact HGL.out)
      · exact Or.inl (Or.inr hk)

theorem blocks_walk (p N : Nat) (d : Wd) (vn : Value) (ns : List Value) (len s m q : Int) (w : World)
    (hw : WN w p d vn ns) (hN : ns.length = N) (hN4 : N % 4 = 0) (hN2 : N ≤ 1000) :
    Calls Try.prog 14 #[.pointer (some ⟨p, 0, none⟩), .int .i64 len, .agg #[.int .i64 s, .int .i64 m, .int .i64 q]] w (BlocksPost p N d vn w) := by
  by_cases h : 0 ≤ len ∧ len ≤ 2000 ∧ planOk s m q
  · obtain ⟨h0, h1, a1, a2, a3, a4, a5, a6⟩ := h
    obtain ⟨len', rfl⟩ := Int.eq_ofNat_of_zero_le h0
    obtain ⟨s', rfl⟩ := Int.eq_ofNat_of_zero_le (show 0 ≤ s by omega)
    obtain ⟨m', rfl⟩ := Int.eq_ofNat_of_zero_le (show 0 ≤ m by omega)
    obtain ⟨q', rfl⟩ := Int.eq_ofNat_of_zero_le a5
    by_cases hc : Cut.blocks (Cut.pieces len' s') m' ≤ 256
    · exact blocks_good p N _ d vn ns _ len' s' m' q' (by omega) (by omega) (by omega) (by omega) (by omega) (by omega) rfl rfl hc w hw hN hN4 hN2
    · exact blocks_many p N _ d vn ns len' s' m' q' (by omega) (by omega) (by omega) (by omega) (by omega) (by omega) rfl (by omega) w hw hN hN4
  · exact blocks_refused p N d vn ns len s m q h w hw hN hN4

def d0 : Wd := ⟨.slice none 0 0, .slice none 0 0, .slice none 0 0, .slice none 0 0, .slice none 0 0, .slice none 0 0⟩
theorem WN.toKept {w : World} {p : Nat} {vn : Value} {ns : List Value} (h : WN w p d0 vn ns) : Kept w p d0 vn [] [] ns [] [] :=
  { row := h.row, obs := ownS_nil _ _, ebs := by intro i sv hs; simp at hs, ols := ownS_nil _ _, els := by intro i sv hs; simp at hs, ons := h.own
    ens := fun i sv hs => by obtain ⟨m, _, h2⟩ := h.each i sv hs; exact ⟨m, h2⟩
    ots := ownS_nil _ _, ets := by intro i sv hs; simp at hs, ogs := ownS_nil _ _, egs := by intro i sv hs; simp at hs }
def nils : Array Value := #[.slice none 0 0, .slice none 0 0, .slice none 0 0, .slice none 0 0, .slice none 0 0, .slice none 0 0, .slice none 0 0]
theorem wn_new (w : World) : WN (w.alloc (.cells nils 38)) w.heap.size d0 (.slice none 0 0) [] :=
  ⟨rowL_alloc' w nils 38, ownS_nil _ _, by intro i sv hs; simp at hs⟩

structure CS (w : World) (pl : List Value) (w1 : World) (vn : Value) (ns : List Value) (N : Nat) : Prop where
  plan : RowL w1 w.heap.size 30 pl
  wn : WN w1 (w.heap.size + 1) d0 vn ns
  below : Below w.heap.size w w1
  own : ∀ k, vn.ownBlock = some k → w.heap.size ≤ k
  n4 : ns.length % 4 = 0
  n : ns.length ≤ N
theorem CS.step {w w1 w2 : World} {pl : List Value} {vn : Value} {ns : List Value} {N : Nat} {e : Ending} (h : CS w pl w1 vn ns N) (hp : BlocksPost (w.heap.size + 1) ns.length d0 vn w1 e w2) : e = .returned (.bool true) ∧ ∃ vn2 ns2, CS w pl w2 vn2 ns2 (N + 4) := by
  obtain ⟨rfl, vn2, ns2, h1, h2, h3, h4, h5⟩ := hp
  refine ⟨rfl, vn2, ns2, ⟨h4.row h.plan (fun hx => ?_), h3, h.below.trans (h4.toBelow (fun k hk => ?_) h.below.size), fun k hk => ?_, h1, by have := h.n; omega⟩⟩
  · rcases hx with hx | hx
    · omega
    · exact h.wn.own.ne_type h.plan (by decide) hx
  · rcases hk with rfl | hk
    · omega
    · exact h.own k hk
  · rcases h5 k hk with h6 | h6
    · exact h.own k h6
    · exact Nat.le_trans h.below.size h6

set_option maxRecDepth 20000 in
set_option maxHeartbeats 1000000 in
theorem cuts_walk (len s m q : Int) (w : World) :
    Calls Try.prog 4 #[.int .i64 len, .agg #[.int .i64 s, .int .i64 m, .int .i64 q]] w fun e w' => e = .returned (.bool true) ∧ Below w.heap.size w w' := by
  have hrow0 := (rowL_alloc' w #[.int .i64 s, .int .i64 m, .int .i64 q] 30).alloc (.cells nils 38)
  have g0 := hrow0.cell 0 _ rfl
  have g1 := hrow0.cell 1 _ rfl
  have g2 := hrow0.cell 2 _ rfl
  have H0 : Hid (CS w [.int .i64 s, .int .i64 m, .int .i64 q] ((w.alloc (.cells #[.int .i64 s, .int .i64 m, .int .i64 q] 30)).alloc (.cells nils 38)) (.slice none 0 0) [] 0) := by
    refine ⟨hrow0, ?_, ?_, by intro k hk; simp [Value.ownBlock] at hk, rfl, Nat.le_refl _⟩
    · have h := wn_new (w.alloc (.cells #[.int .i64 s, .int .i64 m, .int .i64 q] 30))
      simp at h; exact h
    · exact ((Below.refl w.heap.size w).alloc (Nat.le_refl _) _).alloc (by simp) _
  clear hrow0
  go_enter Try.func4, Try.ntmps4
  go_wp2_with fail
  go_at_call 14
  refine (blocks_walk (w.heap.size + 1) 0 d0 (.slice none 0 0) [] len s m q _ H0.out.wn rfl rfl (by omega)).mono ?_
  intro e1 w1 hp1
  obtain ⟨rfl, vn1, ns1, h1⟩ := H0.out.step hp1
  clear hp1 g0 g1 g2
  replace h1 := hide h1
  go_wp2_with fail
  go_at_call 14
  refine (blocks_walk (w.heap.size + 1) ns1.length d0 vn1 ns1 30 4 3 2 _ h1.out.wn rfl h1.out.n4 (by have := h1.out.n; omega)).mono ?_
  intro e2 w2 hp2
  obtain ⟨rfl, vn2, ns2, h2⟩ := h1.out.step hp2
  have g0 := h2.plan.cell 0 _ rfl
  have g1 := h2.plan.cell 1 _ rfl
  have g2 := h2.plan.cell 2 _ rfl
  clear hp2
  replace h2 := hide h2
  go_wp2_with fail
  go_at_call 14
  refine (blocks_walk (w.heap.size + 1) ns2.length d0 vn2 ns2 len s m q _ h2.out.wn rfl h2.out.n4 (by have := h2.out.n; omega)).mono ?_
  intro e3 w3 hp3
  obtain ⟨rfl, vn3, ns3, h3⟩ := h2.out.step hp3
  clear hp3 g0 g1 g2
  replace h3 := hide h3
  go_wp2_with fail
  go_at_call 15
  refine (kept_walk (w.heap.size + 1) d0 vn3 [] [] ns3 [] [] _ h3.out.wn.toKept (by simp) (by simp) (by have := h3.out.n; omega) (by intro i m sv hs; simp at hs)).mono ?_
  rintro e4 w4 ⟨rfl, nq, rfl⟩
  go_wp2_with fail
  go_ret
  exact ⟨rfl, h3.out.below.os, h3.out.below.tape, h3.out.below.output, h3.out.below.size, h3.out.below.block⟩
end Go.Proofs.Ytmfpiodlecapiaa
