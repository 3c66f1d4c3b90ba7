/- What the statements' own sum of two lists answers: a list of its own, added byte by byte. -/
import Derived.Test.YtmfpiodlecapiaaAddsFacts
import Derived.Deep.RegionHeld3
namespace Go.Proofs.Ytmfpiodlecapiaa
open Go.RowKit Go.Deep

theorem step_app {P : Program} {ops : Array Oper} {o : Oper} {a : Act} (w : World) {K : Act → World → Prop} {Q : Exit → Act → World → Prop} {E : Prop} (hgd : o.guard = none) (s x : Operand) (t : TypeId)
    (ho : o.op = .call { callee := .builtin .append, args := #[s, x], argTypes := #[t, t] })
    (e : TypeId) (i : TypeInfo) (z : Value) (bytes : Nat) (ht : P.underlying t = some (.slice e)) (hi : P.info? e = some i) (hz : i.zero = some z) (hsize : i.size = 1) (hby : i.bytes = bytes) (hzs : z.cells.size = 1)
    (v : Value) (xs : List Value) (hs : a.eval s = v) (hown : OwnS w e v xs)
    (ad : Addr) (m c : Nat) (news : List Value) (hx : a.eval x = .slice (some ad) m c) (hl : news.length = m) (hnews : ∀ j u, news[j]? = some u → w.cell? (ad.add j) = some u) (h1 : ∀ u ∈ news, u.oneCell' = true)
    (h63 : xs.length + m ≤ maxLen) (hbytes : (xs.length + m) * bytes ≤ 140737488355328)
    (h : ∀ v' w', AppTo w w' e v v' xs news → K (a.put o.dst v') w') :
    if Region.wanted o (yielded ops a.tmps) = true then Oper.wp P o a w K Q else E := by
  have hw : Region.wanted o (yielded ops a.tmps) = true := by simp [Region.wanted, hgd]
  rw [if_pos hw]
  exact wp_app w s x t ho e i z bytes ht hi hz hsize hby hzs v xs hs hown ad m c news hx hl hnews h1 h63 hbytes h

set_option maxRecDepth 20000 in
set_option maxHeartbeats 1000000 in
theorem added_walk (b1 o1 b2 o2 n c1 c2 : Nat) (A B : List Nat) (hA : Hid (A.length = n)) (hB : Hid (B.length = n)) (hAl : ∀ x ∈ A, x < 256) (hBl : ∀ x ∈ B, x < 256) (hn : n ≤ 65536) (w : World)
    (hc1 : ∀ j, j < n → w.cell? ⟨b1, o1 + j, none⟩ = some (.int .u8 ((A[j]?.getD 0 : Nat) : Int))) (hc2 : ∀ j, j < n → w.cell? ⟨b2, o2 + j, none⟩ = some (.int .u8 ((B[j]?.getD 0 : Nat) : Int))) :
    Calls Try.prog 25 #[.slice (some ⟨b1, o1, none⟩) n c1, .slice (some ⟨b2, o2, none⟩) n c2] w fun e w' =>
      ∃ v, e = .returned v ∧ OwnS w' 5 v (u8s (xorL A B)) ∧ (∀ k, v.ownBlock = some k → w.heap.size ≤ k) ∧ Below w.heap.size w w' := by
  obtain ⟨ib, hib, hzb0, hzb1, hzb2⟩ := info_parts Try.infoByte
  have HC1 := hide hc1; have HC2 := hide hc2
  clear hc1 hc2
  have hxl : Hid ((u8s (xorL A B)).length = n) := by show _ = _; rw [u8s_length, xorL_length (by rw [hA.out, hB.out]), hA.out]
  go_enter Try.func25, Try.ntmps25
  go_wp2
  go_loopw [5, 6] (fun v x wr => ∃ k : Nat, k ≤ n ∧ x = .int .i64 k ∧ OwnS wr 5 v ((u8s (xorL A B)).take k) ∧ (∀ q, v.ownBlock = some q → w.heap.size ≤ q) ∧ Below w.heap.size w wr)
    (fun _ x _ => leftOf n (intOf x).toNat)
  case atStart => exact ⟨0, by omega, rfl, by simpa using ownS_nil _ _, by intro q hq; simp [Value.ownBlock] at hq, Below.refl _ _⟩
  case round =>
    obtain ⟨k, hk, rfl, hown, hfr, hbw⟩ := hrel
    by_cases hkn : k < n
    · have hkA : k < A.length := by rw [hA.out]; exact hkn
      have hkB : k < B.length := by rw [hB.out]; exact hkn
      have g1 : wr.cell? ⟨b1, o1 + k, none⟩ = some (.int .u8 ((A[k]?.getD 0 : Nat) : Int)) := cell_later hbw (HC1.out k hkn)
      have g2 : wr.cell? ⟨b2, o2 + k, none⟩ = some (.int .u8 ((B[k]?.getD 0 : Nat) : Int)) := cell_later hbw (HC2.out k hkn)
      have hx := getD_lt hAl hkA
      have hy := getD_lt hBl hkB
      have hV : Hid ((u8s (xorL A B))[k]? = some (.int .u8 ((A[k]?.getD 0 ^^^ B[k]?.getD 0 : Nat) : Int))) := by
        show _ = _
        simp only [u8s, List.getElem?_map, xorL_at hkA hkB, Option.map_some]
      obtain ⟨x, hxe⟩ : ∃ x, x = A[k]?.getD 0 := ⟨_, rfl⟩
      obtain ⟨y, hye⟩ : ∃ y, y = B[k]?.getD 0 := ⟨_, rfl⟩
      rw [← hxe] at g1 hx hV
      rw [← hye] at g2 hy hV
      have hxy := u8_xor_nat x y hx hy
      have hb1 : b1 < w.heap.size := block_lt_of_cell (HC1.out k hkn)
      have hb2 : b2 < w.heap.size := block_lt_of_cell (HC2.out k hkn)
      have hne1 : Hid (some b1 ≠ u5.ownBlock) := fun e => by have := hfr b1 e.symm; omega
      have hne2 : Hid (some b2 ≠ u5.ownBlock) := fun e => by have := hfr b2 e.symm; omega
      have G1 := hide g1; have G2 := hide g2
      have HO := hide hown; have HF := hide hfr; have HB := hide hbw
      clear hown hfr hbw hxe hye hkA hkB
      have k0 : (0 : Int) ≤ (k : Int) := by omega
      have k1 : (k : Int) < (n : Int) := by omega
      have hln : Hid (((u8s (xorL A B)).take k).length ≤ 65536) := by show _ ≤ _; rw [List.length_take, hxl.out]; omega
      go_wp2_with fail
      go_region_held3 (fun w' => w'.cell? ⟨b1, o1 + k, none⟩ = some (.int .u8 (x : Int)) ∧ w'.cell? ⟨b2, o2 + k, none⟩ = some (.int .u8 (y : Int))) (first | go_keep | exact ⟨r1, r2⟩) ((refine step_app _ (by rfl) (.tmp 13) (.tmp 23) 36 (by rfl) 5 ib (.int .u8 0) 1 Try.underlying36 hib hzb0 hzb1 hzb2 rfl _ _ (by rfl) ((HO.out.drew).alloc _) ⟨wr.heap.size, 0, none⟩ 1 1 [.int .u8 ((x ^^^ y : Nat) : Int)] (by rfl) rfl (news_at _ _ _ _ (by simp)) (by intro u hu; simp at hu; subst hu; rfl) (by have := hln.out; unfold maxLen; simp; omega) (by have := hln.out; simp; omega) ?_; intro v' w1 happ; have r1 := happ.grown.cell (cell_later (((Below.refl _ _).drew).alloc (Nat.le_refl _) _) G1.out) hne1.out; have r2 := happ.grown.cell (cell_later (((Below.refl _ _).drew).alloc (Nat.le_refl _) _) G2.out) hne2.out))
      have HA := hide happ
      clear happ r1 r2 g1 g2
      go_wp2
      go_roundw
      case rel =>
        have hsz := HB.out.size
        refine ⟨k + 1, by omega, by go_num, ?_, HA.out.from (by simp; omega) HF.out, HA.out.below ((HB.out.drew).alloc (by exact hsz) _) (by simp; omega) HF.out⟩
        have h := HA.out.own
        rwa [take_snoc hV.out] at h
      case measure => refine leftOf_lt ?_ ?_ <;> simp only [intOf] <;> omega
    · have e : k = n := by omega
      subst e
      have hO : Hid (OwnS wr 5 u5 (u8s (xorL A B))) := by
        show OwnS _ _ _ _
        rw [← List.take_length (l := u8s (xorL A B)), hxl.out]; exact hown
      have HF := hide hfr; have HB := hide hbw
      clear hown hfr hbw
      go_wp2
      go_ret
      exact ⟨_, rfl, hO.out, HF.out, HB.out⟩
end Go.Proofs.Ytmfpiodlecapiaa
