/- What package cut answers on pieces: the document's spare pieces. -/
import Derived.Test.YtmfpiodlecapiaaFieldWalks
import Derived.Test.YtmfpiodlecapiaaBlocksWalks
import Derived.Test.YtmfpiodlecapiaaApp
import Derived.Test.YtmfpiodlecapiaaPackSpec
import Derived.BigQuiet
import Derived.Deep.QuietTactic
import Derived.Deep.RegionWith
import Derived.Deep.DrawnRows
namespace Go.Proofs.Ytmfpiodlecapiaa
open Go.RowKit Go.Deep
attribute [local go_sem ↓] Go.wp_at_zero Go.wp_at_succ

/- The bytes that a slice shows. -/
def Bytes (w : World) (v : Value) (bs : List Nat) : Prop :=
  ∃ b off cap, v = .slice (some ⟨b, off, none⟩) bs.length cap ∧ bs.length ≤ cap ∧ (∀ x ∈ bs, x < 256) ∧ ∀ j, j < bs.length → w.cell? ⟨b, off + j, none⟩ = some (.int .u8 ((bs[j]?.getD 0 : Nat) : Int))

theorem addTimes_core (g b off cap t n : Nat) (S bs : List Nat) (hl1 : Hid (S.length = n)) (hl2 : Hid (bs.length = n)) (hlen : n ≤ 65536) (hbs : ∀ x ∈ bs, x < 256) (hS : ∀ x ∈ S, x < 256) (ht : t < 256) (w : World)
    (hbg : b ≠ g) (hg : RowL w g 5 (u8s S)) (hc : ∀ j, j < n → w.cell? ⟨b, off + j, none⟩ = some (.int .u8 ((bs[j]?.getD 0 : Nat) : Int))) :
    Calls Try.prog 93 #[.slice (some ⟨g, 0, none⟩) n n, .slice (some ⟨b, off, none⟩) n cap, .int .i64 t] w fun e w' =>
      e = .returned (.tuple #[]) ∧ w.grownBy w' (some g) ∧ RowL w' g 5 (u8s (Pk.addTimes S bs t)) := by
  go_enter Try.func93, Try.ntmps93
  go_wp2
  have hPl : Hid ((Pk.addTimes S bs t).length = S.length) := Pk.addTimes_length S bs t (by rw [hl1.out, hl2.out])
  go_loopw [10] (fun x wr => ∃ k : Nat, k ≤ n ∧ x = .int .i64 k ∧ w.grownBy wr (some g) ∧ RowL wr g 5 (mix (u8s (Pk.addTimes S bs t)) (u8s S) k))
    (fun x _ => leftOf n (intOf x).toNat)
  case atStart => exact ⟨0, by omega, rfl, World.grownBy.refl _ _, by rw [mix_zero]; exact hg⟩
  case round =>
    obtain ⟨k, hk, rfl, hgr, hr⟩ := hrel
    by_cases hkl : k < n
    · have hkS : k < S.length := by rw [hl1.out]; exact hkl
      have hkb : k < bs.length := by rw [hl2.out]; exact hkl
      have hcb : wr.cell? ⟨b, off + k, none⟩ = some (.int .u8 ((bs[k]?.getD 0 : Nat) : Int)) := hgr.cell (hc k hkl) (by simpa using hbg)
      have hcg : wr.cell? ⟨g, k, none⟩ = some (.int .u8 ((S[k]?.getD 0 : Nat) : Int)) := by
        apply hr.cell
        rw [mix_at _ _ _ (by simp [u8s_length, hPl.out]) (by simp [u8s_length, hkS])]
        exact u8s_at hkS
      have hf := hr.frozen k
      have hx := getD_lt hbs hkb
      have hy := getD_lt hS hkS
      have hV : Hid ((u8s (Pk.addTimes S bs t))[k]? = some (.int .u8 (((S[k]?.getD 0 ^^^ Gf.mul (bs[k]?.getD 0) t : Nat)) : Int))) := by
        show _ = _
        have := Pk.addTimes_at S bs t k (by rw [hl1.out, hl2.out]) hkS
        simp [u8s, this]
      have hR := hide hr; have hG := hide hgr
      clear hr hgr
      have hC := hide hc
      clear hc hkS hkb
      revert hcb hcg hx hy hV
      generalize bs[k]?.getD 0 = x
      generalize S[k]?.getD 0 = y
      intro hcb hcg hx hy hV
      have hm := Gf.mul_lt hx ht
      have M := hide (fun w => mul_walk x t hx ht w)
      revert hm M hV
      generalize Gf.mul x t = m
      intro hV hm M
      have hxm := Gf.xor_lt hy hm
      have hk0 : (0 : Int) ≤ (k : Int) := by omega
      have hk1 : (k : Int) < (n : Int) := by omega
      have hwx : IntKind.i64.wrap (x : Int) = (x : Int) := wrap_i64_in _ (by omega) (by omega)
      have hwy : IntKind.i64.wrap (y : Int) = (y : Int) := wrap_i64_in _ (by omega) (by omega)
      have hw8 : IntKind.u8.wrap ((y ^^^ m : Nat) : Int) = ((y ^^^ m : Nat) : Int) := wrap_u8_in _ (by omega) (by omega)
      go_wp2_with fail
      go_region_with (first | (go_at_call 32; refine (M.out _).mono ?_; rintro _ _ ⟨rfl, rfl⟩) | (go_at_call 54; refine (add_walk _ _ (by omega) (by omega) _).mono ?_; rintro _ _ ⟨rfl, rfl⟩))
      all_goals
        go_wp2
        go_roundw
        case rel =>
          refine ⟨k + 1, by omega, by go_num, grownBy_drew (grownBy_setCell hG.out _ _), ?_⟩
          have := hR.out.set k (.int .u8 ((y ^^^ m : Nat) : Int))
          rw [mix_set _ _ _ _ (by simp [u8s_length, hPl.out]) hV.out] at this
          exact this.drew
        case measure => refine leftOf_lt ?_ ?_ <;> simp only [intOf] <;> omega
    · have e : k = n := by omega
      subst e
      have hr' : RowL wr g 5 (u8s (Pk.addTimes S bs t)) := by
        have h2 := mix_all (u8s (Pk.addTimes S bs t)) (u8s S) (by simp [u8s_length, hPl.out])
        rw [u8s_length, hl1.out] at h2
        rw [h2] at hr; exact hr
      have hR := hide hr'; have hG := hide hgr
      clear hr hr' hgr
      go_wp2
      go_end0
      exact ⟨rfl, hG.out, hR.out⟩

theorem weight_walk (j i : Nat) (hj : j < 32) (hi : i < 32) (w : World) :
    Calls Try.prog 94 #[.int .i64 j, .int .i64 i] w fun e w' => e = .returned (.int .i64 (Pk.weight j i : Nat)) ∧ w' = w := by
  have hx := Gf.xor_lt (a := 255 - j) (b := i) (by omega) (by omega)
  have hA := hide (fun w => add_walk (255 - j) i (by omega) (by omega) w)
  have hI := hide (fun w => inverse_walk ((255 - j) ^^^ i) hx w)
  have hA' : Hid (∀ w, Calls Try.prog 54 #[.int .i64 (255 - (j : Int)), .int .i64 i] w fun e w' => e = .returned (.int .i64 (((255 - j) ^^^ i : Nat) : Int)) ∧ w' = w) := by
    have e : ((255 - j : Nat) : Int) = 255 - (j : Int) := by omega
    intro w; have := hA.out w; rw [e] at this; exact this
  clear hA
  unfold Pk.weight
  revert hI hA' hx
  generalize (255 - j) ^^^ i = x
  intro hx hI hA'
  revert hI
  generalize Gf.inv x = y
  intro hI
  go_enter Try.func94, Try.ntmps94
  go_wp2_with first | (go_at_call 54; refine (hA'.out _).mono ?_; rintro _ _ ⟨rfl, rfl⟩) | (go_at_call 33; refine (hI.out _).mono ?_; rintro _ _ ⟨rfl, rfl⟩)
  go_ret
  exact ⟨rfl, rfl⟩

theorem Try.infoBytes : (Try.prog.info? 36).map (fun i => (i.zero, i.size, i.bytes)) = some (some (.slice none 0 0), 1, 24) := by kernel_rfl
theorem Try.infoByte : (Try.prog.info? 5).map (fun i => (i.zero, i.size, i.bytes)) = some (some (.int .u8 0), 1, 1) := by kernel_rfl

/- The pieces of a block's bytes, as slices. -/
def pieceV (b off s c : Nat) (i : Nat) : Value := .slice (some ⟨b, off + i * s, none⟩) s (c - i * s)
def ownV (b off s c K : Nat) : List Value := (List.range K).map (pieceV b off s c)
theorem ownV_at {b off s c K k : Nat} (h : k < K) : (ownV b off s c K)[k]? = some (pieceV b off s c k) := by simp [ownV, h]
theorem ownV_length (b off s c K : Nat) : (ownV b off s c K).length = K := by simp [ownV]

theorem split_walk (b off s c K n : Nat) (hn : Hid (n = K * s)) (hs : 1 ≤ s) (hn2 : n ≤ 65536) (hK : K ≤ 65536) (hc : n ≤ c) (hc2 : c ≤ 9223372036854775807) (w : World) :
    Calls Try.prog 79 #[.slice (some ⟨b, off, none⟩) n c, .int .i64 s] w fun e w' =>
      ∃ v, e = .returned v ∧ OwnS w' 36 v (ownV b off s c K) ∧ (∀ k, v.ownBlock = some k → w.heap.size ≤ k) ∧ Below w.heap.size w w' := by
  obtain ⟨i0, hi, hz0, hz1, hz2⟩ := info_parts Try.infoBytes
  go_enter Try.func79, Try.ntmps79
  go_wp2
  go_loopw [5, 6] (fun v x wr => ∃ k a : Nat, k ≤ K ∧ Hid (a = k * s) ∧ a ≤ n ∧ x = .int .i64 a ∧ OwnS wr 36 v ((ownV b off s c K).take k) ∧ (∀ k, v.ownBlock = some k → w.heap.size ≤ k) ∧ Below w.heap.size w wr)
    (fun _ x _ => leftOf n (intOf x).toNat)
  case atStart => exact ⟨0, 0, by omega, (show Hid _ from by show 0 = 0 * s; omega), by omega, rfl, by simpa using ownS_nil _ _, by intro k hk; simp [Value.ownBlock] at hk, Below.refl _ _⟩
  case round =>
    obtain ⟨k, a, hk, ha, han, rfl, hown, hbk, hb⟩ := hrel
    by_cases hlt : a < n
    · have hkK : k < K := by
        have h1 := ha.out; have h2 := hn.out
        rcases Nat.lt_or_ge k K with h | h
        · exact h
        · have := Nat.mul_le_mul_right s h
          omega
      have has : a + s ≤ n := by
        have h1 := ha.out; have h2 := hn.out
        have := Nat.mul_le_mul_right s hkK
        rw [Nat.succ_mul] at this
        omega
      have hO := hide hown; have hBk := hide hbk; have hB := hide hb
      have hlen : Hid ((ownV b off s c K).length = K) := ownV_length _ _ _ _ _
      have hV : Hid ((ownV b off s c K)[k]? = some (.slice (some ⟨b, off + a, none⟩) s (c - a))) := by
        show _ = _
        rw [ownV_at hkK]; unfold pieceV; rw [ha.out]
      clear hown hbk hb
      have h0a : (0 : Int) ≤ (a : Int) := by omega
      have h0b : (a : Int) + (s : Int) ≤ (c : Int) := by omega
      go_wp2_with (at_builtin; refine wpList_app _ rfl _ _ 33 rfl 36 i0 (.slice none 0 0) 24 Try.underlying33 hi hz0 hz1 hz2 rfl _ _ rfl (hO.out.alloc _) ⟨wr.heap.size, 0, none⟩ 1 1 [.slice (some ⟨b, off + a, none⟩) s (c - a)] rfl rfl (cell_one_new _ _ _) (by intro u hu; simp at hu; subst hu; rfl) (by simp [maxLen]; omega) (by simp; omega) ?_)
      intro v' w1 happ
      have hA := hide happ
      clear happ
      go_wp2
      go_roundw
      case rel =>
        have hsz := hB.out.size
        have hwr : w.heap.size ≤ (wr.alloc (.cells #[.slice (some ⟨b, off + a, none⟩) s (c - a)] 36)).heap.size := by simp; omega
        refine ⟨k + 1, a + s, by omega, ?_, by omega, by go_num, ?_, hA.out.from hwr hBk.out, hA.out.below (hB.out.alloc hsz _) hwr hBk.out⟩
        · show a + s = (k + 1) * s
          rw [Nat.succ_mul, ← ha.out]
        · have := hA.out.own
          rwa [take_snoc hV.out] at this
      case measure => refine leftOf_lt ?_ ?_ <;> simp only [intOf] <;> omega
    · have e : k = K := by
        have h1 := ha.out; have h2 := hn.out
        have : a = n := by omega
        rcases Nat.lt_or_ge k K with h | h
        · have h3 := Nat.mul_le_mul_right s h
          rw [Nat.succ_mul] at h3
          omega
        · omega
      subst e
      have hO : Hid (OwnS wr 36 u5 (ownV b off s c k)) := by
        show OwnS _ _ _ _
        rw [← List.take_length (l := ownV b off s c k), ownV_length]; exact hown
      have hBk := hide hbk; have hB := hide hb
      clear hown hbk hb
      go_wp2
      go_ret
      exact ⟨_, rfl, hO.out, hBk.out, hB.out⟩

theorem spare_walk (b off s c K j gO capO : Nat) (cur : List Value) (blk : List Nat) (hl : Hid (blk.length = K * s)) (hb : ∀ x ∈ blk, x < 256) (hK : K ≤ 32) (hj : j < 32) (hs : 1 ≤ s) (hs2 : s ≤ 65536) (w : World)
    (hO : RowL w gO 36 cur) (htk : Hid (cur.take K = ownV b off s c K)) (hbl : b < w.heap.size)
    (hc : ∀ q, q < K * s → w.cell? ⟨b, off + q, none⟩ = some (.int .u8 ((blk[q]?.getD 0 : Nat) : Int))) :
    Calls Try.prog 80 #[.slice (some ⟨gO, 0, none⟩) K capO, .int .i64 j, .int .i64 s] w fun e w' =>
      e = .returned (.slice (some ⟨w.heap.size, 0, none⟩) s s) ∧ Below w.heap.size w w' ∧ RowL w' w.heap.size 5 (u8s (Pk.sumTo blk s j K)) := by
  obtain ⟨i0, hi, hz0, hz1, hz2⟩ := info_parts Try.infoByte
  have hgO := hO.lt
  have HO := hide hO; have HC := hide hc
  clear hO hc
  go_enter Try.func80, Try.ntmps80
  go_wp2_with (at_make; refine wpList_make_row _ rfl _ _ 36 rfl 5 i0 (.int .u8 0) Try.underlying36 hi hz0 hz1 rfl .i64 .i64 s rfl rfl (by rw [hz2]; omega) (by omega) ?_)
  have hb0 : Below w.heap.size w (w.alloc (.cells (madeCells #[.int .u8 0] s) 5)) := (Below.refl _ _).alloc (Nat.le_refl _) _
  have hr0 : RowL (w.alloc (.cells (madeCells #[.int .u8 0] s) 5)) w.heap.size 5 (u8s (Pk.sumTo blk s j 0)) := by
    have := rowL_made w (.int .u8 0) s 5
    simpa [u8s, Pk.sumTo] using this
  have hB0 := hide hb0; have hR0 := hide hr0
  clear hb0 hr0
  go_loopw [14] (fun x wr => ∃ k : Nat, k ≤ K ∧ x = .int .i64 k ∧ Below w.heap.size w wr ∧ RowL wr w.heap.size 5 (u8s (Pk.sumTo blk s j k)))
    (fun x _ => leftOf K (intOf x).toNat)
  case atStart => exact ⟨0, by omega, rfl, hB0.out, hR0.out⟩
  case round =>
    obtain ⟨k, hk, rfl, hbw, hr⟩ := hrel
    by_cases hlt : k < K
    · have hcO : wr.cell? ⟨gO, k, none⟩ = some (.slice (some ⟨b, off + k * s, none⟩) s (c - k * s)) := by
        apply (HO.out.below hbw hgO).cell
        have : (cur.take K)[k]? = some (pieceV b off s c k) := by rw [htk.out]; exact ownV_at hlt
        rw [List.getElem?_take, if_pos hlt] at this
        exact this
      have hWt := hide (fun w => weight_walk j k hj (by omega) w)
      have hA : Hid (Calls Try.prog 93 #[.slice (some ⟨w.heap.size, 0, none⟩) s s, .slice (some ⟨b, off + k * s, none⟩) s (c - k * s), .int .i64 (Pk.weight j k : Nat)] wr fun e w' =>
          e = .returned (.tuple #[]) ∧ wr.grownBy w' (some w.heap.size) ∧ RowL w' w.heap.size 5 (u8s (Pk.sumTo blk s j (k + 1)))) := by
        refine addTimes_core w.heap.size b (off + k * s) (c - k * s) (Pk.weight j k) s (Pk.sumTo blk s j k) (Pk.piece blk s k) (Pk.sumTo_length hl.out k hk) (Pk.piece_length hl.out hlt) hs2 (Pk.piece_lt hb s k) (Pk.sumTo_lt hb hj k (by omega)) (Pk.weight_lt hj (by omega)) wr (by omega) hr ?_
        intro q hq
        have h3 := Nat.mul_le_mul_right s hlt
        rw [Nat.succ_mul] at h3
        have := HC.out (k * s + q) (by omega)
        rw [Pk.piece_at hq, Nat.add_assoc, hbw.cell (by exact hbl)]
        exact this
      have hB := hide hbw
      clear hbw hr
      revert hWt hA
      generalize Pk.weight j k = wt
      intro hWt hA
      revert hcO hA
      generalize off + k * s = o1
      generalize c - k * s = c1
      intro hcO hA
      go_wp2_with first | (go_at_call 94; refine (hWt.out _).mono ?_; rintro _ _ ⟨rfl, rfl⟩) | (go_at_call 93; refine hA.out.mono ?_; rintro _ w1 ⟨rfl, hg1, hr1⟩; replace hg1 := hide hg1; replace hr1 := hide hr1)
      go_roundw
      case rel => exact ⟨k + 1, by omega, by go_num, hB.out.grown hg1.out hB.out.size (by intro q hq; simp at hq; omega), hr1.out⟩
      case measure => refine leftOf_lt ?_ ?_ <;> simp only [intOf] <;> omega
    · have e : k = K := by omega
      subst e
      have hB := hide hbw; have hR := hide hr
      clear hbw hr
      go_wp2
      go_ret
      exact ⟨rfl, hB.out, hR.out⟩
end Go.Proofs.Ytmfpiodlecapiaa
