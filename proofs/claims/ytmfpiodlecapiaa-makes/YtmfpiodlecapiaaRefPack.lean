/- The document's own bytes: zeros, a number as two bytes, bytes so many times, two texts added byte by byte. -/
import Derived.Test.YtmfpiodlecapiaaKeptWalk
import Derived.Test.YtmfpiodlecapiaaAddsFacts
namespace Go.Proofs.Ytmfpiodlecapiaa
open Go.RowKit Go.Deep

theorem strOf_size (bs : List Nat) : (strOf bs).size = bs.length := by
  rw [strOf_eq]; simp [ByteArray.size]
theorem strOf_append (a b : List Nat) : strOf a ++ strOf b = strOf (a ++ b) := by
  rw [strOf_eq, strOf_eq, strOf_eq]
  apply ByteArray.ext
  simp [ByteArray.data_append]
theorem strOf_bytesOf (s : ByteArray) : strOf (bytesOf s) = s := by
  rw [strOf_eq]
  apply ByteArray.ext
  apply Array.ext'
  unfold bytesOf
  rw [List.map_map]
  conv => rhs; rw [← List.map_id s.data.toList]
  apply List.map_congr_left
  intro x _
  simp
theorem bytesOf_strOf {bs : List Nat} (h : ∀ x ∈ bs, x < 256) : bytesOf (strOf bs) = bs := by
  rw [strOf_eq]
  unfold bytesOf
  simp only [List.map_map]
  conv => rhs; rw [← List.map_id bs]
  apply List.map_congr_left
  intro x hx
  have := h x hx
  simp
  omega
theorem bytesRow_strOf {bs : List Nat} (h : ∀ x ∈ bs, x < 256) (cap : Nat) : bytesRow (strOf bs) cap = (u8s bs ++ List.replicate (cap - bs.length) (Value.int .u8 0)).toArray := by
  have e := bytesOf_strOf h
  unfold bytesRow
  rw [strOf_size]
  apply Array.ext'
  simp only [Array.toList_append, Array.toList_map, Array.toList_replicate]
  congr 1
  unfold u8s
  conv => rhs; rw [← e]
  unfold bytesOf
  rw [List.map_map]
  rfl

/- A row with a mark right behind its end. -/
def RowM (w : World) (g : Nat) (t : TypeId) (L : List Value) : Prop := w.heap[g]? = some (.cells L.toArray t (L.length, L.length + 1))
theorem RowM.cell {w : World} {g : Nat} {t : TypeId} {L : List Value} (h : RowM w g t L) (i : Nat) (v : Value) (hv : L[i]? = some v) : w.cell? ⟨g, i, none⟩ = some v := by
  unfold World.cell?
  rw [show w.heap[(⟨g, i, none⟩ : Addr).block]? = _ from h]
  simpa using hv
theorem RowM.frozen {w : World} {g : Nat} {t : TypeId} {L : List Value} (h : RowM w g t L) (i : Nat) (hi : i < L.length) : w.frozen? ⟨g, i, none⟩ = false := by
  unfold World.frozen?
  rw [show w.heap[(⟨g, i, none⟩ : Addr).block]? = _ from h]
  simp; omega
theorem RowM.lt {w : World} {g : Nat} {t : TypeId} {L : List Value} (h : RowM w g t L) : g < w.heap.size := (Array.getElem?_eq_some_iff.1 h).1
theorem RowM.set {w : World} {g : Nat} {t : TypeId} {L : List Value} (h : RowM w g t L) (i : Nat) (v : Value) : RowM (w.setCell ⟨g, i, none⟩ v) g t (L.set i v) := by
  have e : w.heap[g]? = some (.cells L.toArray t (L.length, L.length + 1)) := h
  show (w.heap.modify g _)[g]? = _
  rw [Array.getElem?_modify, if_pos rfl, e]
  simp
theorem RowM.drew {w : World} {g : Nat} {t : TypeId} {L : List Value} (h : RowM w g t L) : RowM w.drew g t L := h
theorem RowM.below {w w' : World} {g B : Nat} {t : TypeId} {L : List Value} (h : RowM w g t L) (hb : Below B w w') (hg : g < B) : RowM w' g t L := (hb.block g hg).trans h
theorem rowM_bytes (w : World) (bs : List Nat) (h : ∀ x ∈ bs, x < 256) (cap : Nat) (t : TypeId) : RowM (w.alloc (.cells (bytesRow (strOf bs) cap) t ((bytesRow (strOf bs) cap).size, (bytesRow (strOf bs) cap).size + 1))) w.heap.size t (u8s bs ++ List.replicate (cap - bs.length) (.int .u8 0)) := by
  have e := bytesRow_strOf h cap
  unfold RowM
  rw [blk_alloc_new, e]
  simp
theorem conv_strM {w : World} {g cap n : Nat} {L : List Value} {bs : List Nat} (hr : RowM w g 5 L) (hl : bs.length = n) (hL : ∀ j, j < n → L[j]? = some (.int .u8 ((bs[j]?.getD 0 : Nat) : Int))) :
    (convert 36 9 (.slice (some ⟨g, 0, none⟩) n cap)).run Try.prog w = .ok (.string (strOf bs)) w := by
  refine run_convert_bytes_arg w 36 5 Try.underlying36 Try.underlying5 g 0 n cap (bs.map (fun n : Nat => (n : Int))) (by simpa using hl) ?_ 9 Try.underlying9
  intro i hi
  rw [hr.cell _ _ (by rw [Nat.zero_add]; exact hL i hi)]
  simp [List.getD, hl ▸ hi]

set_option maxRecDepth 20000 in
theorem zeros_walk (n : Nat) (hn : n ≤ 4096) (w : World) :
    Calls Try.prog 57 #[.int .i64 n] w fun e w' => e = .returned (.string (strOf (List.replicate n 0))) ∧ Below w.heap.size w w' := by
  have hb0 := hide ((Below.refl w.heap.size w).alloc (Nat.le_refl _) (.cells (madeCells #[.int .u8 0] n) 5))
  have hcv : (convert 36 9 (.slice (some ⟨w.heap.size, 0, none⟩) n n)).run Try.prog (w.alloc (.cells (madeCells #[.int .u8 0] n) 5)) = .ok (.string (strOf (List.replicate n 0))) (w.alloc (.cells (madeCells #[.int .u8 0] n) 5)) := by
    refine conv_str (rowL_made w (.int .u8 0) n 5) (by simp) (fun j hj => ?_)
    simp [hj]
  obtain ⟨i0, hi, hz0, hz1, hz2⟩ := info_parts Try.infoByte
  go_enter Try.func57, Try.ntmps57
  go_wp2_with (at_make; refine wpList_mk _ rfl _ _ 36 rfl 5 i0 (.int .u8 0) Try.underlying36 hi hz0 hz1 rfl .i64 .i64 n n rfl rfl (by omega) (by rw [hz2]; omega) (by omega) ?_)
  go_ret
  exact ⟨rfl, hb0.out⟩

set_option maxRecDepth 20000 in
theorem two_walk (n : Nat) (hn : n < 65536) (w : World) :
    Calls Try.prog 74 #[.int .i64 n] w fun e w' => e = .returned (.string (strOf [n / 256, n % 256])) ∧ Below w.heap.size w w' := by
  obtain ⟨a, ha⟩ : ∃ a, a = n / 256 := ⟨_, rfl⟩
  obtain ⟨b, hb⟩ : ∃ b, b = n % 256 := ⟨_, rfl⟩
  have ha1 : a < 256 := by omega
  have hb1 : b < 256 := by omega
  have e1 : (n : Int) / 256 = (a : Int) := by omega
  have e2 : (n : Int) % 256 = (b : Int) := by omega
  rw [← ha, ← hb]
  clear ha hb
  have hb0 := hide ((Below.refl w.heap.size w).alloc (Nat.le_refl _) (.cells #[.int .u8 a, .int .u8 b] 5))
  have hcv : (convert 36 9 (.slice (some ⟨w.heap.size, 0, none⟩) 2 2)).run Try.prog (w.alloc (.cells #[.int .u8 a, .int .u8 b] 5)) = .ok (.string (strOf [a, b])) (w.alloc (.cells #[.int .u8 a, .int .u8 b] 5)) :=
    conv_row (bs := [a, b]) (rowL_alloc' w #[.int .u8 a, .int .u8 b] 5) rfl
  go_enter Try.func74, Try.ntmps74
  go_wp2
  go_ret
  exact ⟨rfl, hb0.out⟩

def timesL (bs : List Nat) (t : Nat) : List Nat := bs.map (fun x => Gf.mul x t)
theorem timesL_length (bs : List Nat) (t : Nat) : (timesL bs t).length = bs.length := by simp [timesL]
theorem timesL_at {bs : List Nat} {t k : Nat} (hk : k < bs.length) : (timesL bs t)[k]?.getD 0 = Gf.mul (bs[k]?.getD 0) t := by simp [timesL, hk]

set_option maxRecDepth 20000 in
set_option maxHeartbeats 1000000 in
theorem times_walk (bs : List Nat) (t n : Nat) (hbs : Hid (∀ x ∈ bs, x < 256)) (ht : t < 256) (hl : Hid (bs.length = n)) (hn : n ≤ 4096) (w : World) :
    Calls Try.prog 77 #[.string (strOf bs), .int .i64 t] w fun e w' => e = .returned (.string (strOf (timesL bs t))) ∧ Below w.heap.size w w' := by
  have kc := run_bytes_of_string (P := Try.prog) w 9 36 5 (strOf bs) Try.underlying9 Try.underlying36 Try.underlying5
  rw [strOf_size, hl.out] at kc
  obtain ⟨c, hc⟩ : ∃ c, c = grownCap w n 0 5 := ⟨_, rfl⟩
  rw [← hc] at kc
  have hrow := rowM_bytes w bs hbs.out c 5
  have hb0 := (Below.refl w.heap.size w).alloc (Nat.le_refl _) (.cells (bytesRow (strOf bs) c) 5 ((bytesRow (strOf bs) c).size, (bytesRow (strOf bs) c).size + 1))
  obtain ⟨w0, hw0⟩ : ∃ w0, w0 = w.drew.alloc (.cells (bytesRow (strOf bs) c) 5 ((bytesRow (strOf bs) c).size, (bytesRow (strOf bs) c).size + 1)) := ⟨_, rfl⟩
  rw [← hw0] at kc
  have HR : Hid (RowM w0 w.heap.size 5 (u8s bs ++ List.replicate (c - bs.length) (.int .u8 0))) := by rw [hw0]; exact hrow
  have HB : Hid (Below w.heap.size w w0) := by rw [hw0]; exact ((Below.refl w.heap.size w).drew).alloc (by simp) _
  clear hw0 hc hrow hb0
  have hlen : Hid ((u8s (timesL bs t) ++ List.replicate (c - bs.length) (Value.int .u8 0)).length = (u8s bs ++ List.replicate (c - bs.length) (Value.int .u8 0)).length) := by
    show _ = _
    rw [List.length_append, List.length_append, u8s_length, u8s_length, timesL_length]
  go_enter Try.func77, Try.ntmps77
  go_wp2_with fail
  go_loopw [6] (fun x wr => ∃ k : Nat, k ≤ n ∧ x = .int .i64 k ∧ Below w.heap.size w wr ∧ RowM wr w.heap.size 5 (mix (u8s (timesL bs t) ++ List.replicate (c - bs.length) (.int .u8 0)) (u8s bs ++ List.replicate (c - bs.length) (.int .u8 0)) k))
    (fun x _ => leftOf n (intOf x).toNat)
  case atStart => exact ⟨0, by omega, rfl, HB.out, by rw [mix_zero]; exact HR.out⟩
  case round =>
    obtain ⟨k, hk, rfl, hbw, hr⟩ := hrel
    by_cases hkn : k < n
    · have hkb : k < bs.length := by rw [hl.out]; exact hkn
      have hm := mix_at (u8s (timesL bs t) ++ List.replicate (c - bs.length) (.int .u8 0)) (u8s bs ++ List.replicate (c - bs.length) (Value.int .u8 0)) k hlen.out (by simp [u8s]; omega)
      rw [List.getElem?_append_left (by rw [u8s_length]; exact hkb), u8s_at hkb] at hm
      have hv : Hid ((u8s (timesL bs t) ++ List.replicate (c - bs.length) (Value.int .u8 0))[k]? = some (.int .u8 ((Gf.mul (bs[k]?.getD 0) t : Nat) : Int))) := by
        show _ = _
        rw [List.getElem?_append_left (by rw [u8s_length, timesL_length]; exact hkb), u8s_at (by rw [timesL_length]; exact hkb), timesL_at hkb]
      have hx := getD_lt hbs.out hkb
      obtain ⟨x, hxe⟩ : ∃ x, x = bs[k]?.getD 0 := ⟨_, rfl⟩
      rw [← hxe] at hm hv hx
      have M := hide (fun w => refMul_walk x t hx ht w)
      have hy := Gf.mul_lt hx ht
      obtain ⟨y, hye⟩ : ∃ y, y = Gf.mul x t := ⟨_, rfl⟩
      rw [← hye] at hv M hy
      have hcell := hr.cell k _ hm
      have hfr := hr.frozen k (by unfold mix; simp [u8s, timesL]; omega)
      have HBW := hide hbw; have HRW := hide hr
      clear hbw hr hm hxe hye hkb
      have k0 : (0 : Int) ≤ (k : Int) := by omega
      have k1 : (k : Int) < (n : Int) := by omega
      go_wp2_with (go_at_call 12; refine (M.out _).mono ?_; rintro _ wq ⟨rfl, hq⟩; have hq2 := hq.symm; clear hq; subst hq2)
      go_roundw
      case rel =>
        refine ⟨k + 1, by omega, by go_num, HBW.out.setCell (Nat.le_refl _) _, ?_⟩
        have h := HRW.out.set k (.int .u8 y)
        rw [mix_set _ _ _ _ hlen.out hv.out] at h
        exact h
      case measure => refine leftOf_lt ?_ ?_ <;> simp only [intOf] <;> omega
    · have ek : k = n := by omega
      have kz : ¬ (k : Int) < (n : Int) := by omega
      have hcv : (convert 36 9 (.slice (some ⟨w.heap.size, 0, none⟩) n c)).run Try.prog wr = .ok (.string (strOf (timesL bs t))) wr := by
        refine conv_strM hr (by rw [timesL_length, hl.out]) (fun j hj => ?_)
        have hjb : j < (timesL bs t).length := by rw [timesL_length, hl.out]; exact hj
        unfold mix
        rw [List.getElem?_append_left (by simp [u8s]; omega), List.getElem?_take, if_pos (by omega), List.getElem?_append_left (by rw [u8s_length]; exact hjb), u8s_at hjb]
      have HBW := hide hbw
      clear hbw hr
      go_wp2_with fail
      go_ret
      exact ⟨rfl, HBW.out⟩
theorem strOf_index {bs : List Nat} {k : Nat} (hk : k < bs.length) (hb : bs[k]?.getD 0 < 256) (h : k < (strOf bs).size) : ((strOf bs)[k]'h).toNat = bs[k]?.getD 0 := by
  have e := strOf_eq bs
  have e2 : (strOf bs)[k] = (strOf bs).data[k]'h := rfl
  rw [e2]
  simp only [e]
  simp [hk] at hb ⊢
  omega
set_option maxRecDepth 20000 in
set_option maxHeartbeats 1000000 in
theorem plus_walk (bs ts : List Nat) (n : Nat) (hbs : Hid (∀ x ∈ bs, x < 256)) (hts : Hid (∀ x ∈ ts, x < 256)) (hl : Hid (bs.length = n)) (hlt : Hid (ts.length = n)) (hn : n ≤ 4096) (w : World) :
    Calls Try.prog 76 #[.string (strOf bs), .string (strOf ts)] w fun e w' => e = .returned (.string (strOf (xorL bs ts))) ∧ Below w.heap.size w w' := by
  have hXL : Hid ((xorL bs ts).length = bs.length) := xorL_length (by rw [hl.out, hlt.out])
  have kc := run_bytes_of_string (P := Try.prog) w 9 36 5 (strOf bs) Try.underlying9 Try.underlying36 Try.underlying5
  rw [strOf_size, hl.out] at kc
  obtain ⟨c, hc⟩ : ∃ c, c = grownCap w n 0 5 := ⟨_, rfl⟩
  rw [← hc] at kc
  have hrow := rowM_bytes w bs hbs.out c 5
  have hb0 := (Below.refl w.heap.size w).alloc (Nat.le_refl _) (.cells (bytesRow (strOf bs) c) 5 ((bytesRow (strOf bs) c).size, (bytesRow (strOf bs) c).size + 1))
  obtain ⟨w0, hw0⟩ : ∃ w0, w0 = w.drew.alloc (.cells (bytesRow (strOf bs) c) 5 ((bytesRow (strOf bs) c).size, (bytesRow (strOf bs) c).size + 1)) := ⟨_, rfl⟩
  rw [← hw0] at kc
  have HR : Hid (RowM w0 w.heap.size 5 (u8s bs ++ List.replicate (c - bs.length) (.int .u8 0))) := by rw [hw0]; exact hrow
  have HB : Hid (Below w.heap.size w w0) := by rw [hw0]; exact ((Below.refl w.heap.size w).drew).alloc (by simp) _
  clear hw0 hc hrow hb0
  have hlen : Hid ((u8s (xorL bs ts) ++ List.replicate (c - bs.length) (Value.int .u8 0)).length = (u8s bs ++ List.replicate (c - bs.length) (Value.int .u8 0)).length) := by
    show _ = _
    rw [List.length_append, List.length_append, u8s_length, u8s_length, hXL.out]
  go_enter Try.func76, Try.ntmps76
  go_wp2_with fail
  go_loopw [6] (fun x wr => ∃ k : Nat, k ≤ n ∧ x = .int .i64 k ∧ Below w.heap.size w wr ∧ RowM wr w.heap.size 5 (mix (u8s (xorL bs ts) ++ List.replicate (c - bs.length) (.int .u8 0)) (u8s bs ++ List.replicate (c - bs.length) (.int .u8 0)) k))
    (fun x _ => leftOf n (intOf x).toNat)
  case atStart => exact ⟨0, by omega, rfl, HB.out, by rw [mix_zero]; exact HR.out⟩
  case round =>
    obtain ⟨k, hk, rfl, hbw, hr⟩ := hrel
    by_cases hkn : k < n
    · have hkb : k < bs.length := by rw [hl.out]; exact hkn
      have hm := mix_at (u8s (xorL bs ts) ++ List.replicate (c - bs.length) (.int .u8 0)) (u8s bs ++ List.replicate (c - bs.length) (Value.int .u8 0)) k hlen.out (by simp [u8s]; omega)
      rw [List.getElem?_append_left (by rw [u8s_length]; exact hkb), u8s_at hkb] at hm
      have hv : Hid ((u8s (xorL bs ts) ++ List.replicate (c - bs.length) (Value.int .u8 0))[k]? = some (.int .u8 ((bs[k]?.getD 0 ^^^ ts[k]?.getD 0 : Nat) : Int))) := by
        show _ = _
        rw [List.getElem?_append_left (by rw [u8s_length, hXL.out]; exact hkb), u8s_at (by rw [hXL.out]; exact hkb), xorL_at hkb (by rw [hlt.out]; exact hkn)]; rfl
      have hx := getD_lt hbs.out hkb
      have hx2 := getD_lt hts.out (show k < ts.length by rw [hlt.out]; exact hkn)
      have hix := strOf_index (show k < ts.length by rw [hlt.out]; exact hkn) hx2
      have hks : k < (strOf ts).size := by rw [strOf_size, hlt.out]; exact hkn
      obtain ⟨x, hxe⟩ : ∃ x, x = bs[k]?.getD 0 := ⟨_, rfl⟩
      rw [← hxe] at hm hv hx
      obtain ⟨y, hye⟩ : ∃ y, y = ts[k]?.getD 0 := ⟨_, rfl⟩
      rw [← hye] at hv hx2 hix
      have hxy := u8_xor_nat x y hx hx2
      have hcell := hr.cell k _ hm
      have hfr := hr.frozen k (by have := hXL.out; unfold mix; simp [u8s]; omega)
      have HBW := hide hbw; have HRW := hide hr
      clear hbw hr hm hxe hye hkb
      have k0 : (0 : Int) ≤ (k : Int) := by omega
      have k1 : (k : Int) < (n : Int) := by omega
      go_wp2_with fail
      go_region
      go_wp2
      go_roundw
      case rel =>
        refine ⟨k + 1, by omega, by go_num, (HBW.out.setCell (Nat.le_refl _) _).drew, ?_⟩
        have h := HRW.out.set k (.int .u8 ((x ^^^ y : Nat) : Int))
        rw [mix_set _ _ _ _ hlen.out hv.out] at h
        exact h.drew
      case measure => refine leftOf_lt ?_ ?_ <;> simp only [intOf] <;> omega
    · have ek : k = n := by omega
      have kz : ¬ (k : Int) < (n : Int) := by omega
      have hcv : (convert 36 9 (.slice (some ⟨w.heap.size, 0, none⟩) n c)).run Try.prog wr = .ok (.string (strOf (xorL bs ts))) wr := by
        refine conv_strM hr (by rw [hXL.out, hl.out]) (fun j hj => ?_)
        have hjb : j < (xorL bs ts).length := by rw [hXL.out, hl.out]; exact hj
        unfold mix
        rw [List.getElem?_append_left (by simp [u8s]; omega), List.getElem?_take, if_pos (by omega), List.getElem?_append_left (by rw [u8s_length]; exact hjb), u8s_at hjb]
      have HBW := hide hbw
      clear hbw hr
      go_wp2_with fail
      go_ret
      exact ⟨rfl, HBW.out⟩

/- What piece i of a block counts in its spare piece j. -/
theorem refWeight_walk (j i : Nat) (hj : j < 32) (hi : i < 32) (w : World) :
    Calls Try.prog 92 #[.int .i64 j, .int .i64 i] w fun e w' => e = .returned (.int .i64 (Pk.weight j i : Nat)) ∧ w' = w := by
  have hne := Pk.weight_ne hj hi
  have hlt : (255 - j) ^^^ i < 256 := Gf.xor_lt (by omega) (by omega)
  have I := hide (fun w => refInverse_walk ((255 - j) ^^^ i) hlt hne w)
  have hw : Hid (Gf.inv ((255 - j) ^^^ i) = Pk.weight j i) := rfl
  obtain ⟨a, ha⟩ : ∃ a, a = 255 - j := ⟨_, rfl⟩
  have e1 : (255 : Int) - (j : Int) = (a : Int) := by omega
  rw [← ha] at I hw hlt
  rw [hw.out] at I
  have hx := i64_xor a i (by omega) (by omega)
  clear hw ha hne
  go_enter Try.func92, Try.ntmps92
  go_wp2_with (go_at_call 13; refine (I.out _).mono ?_; rintro _ wq ⟨rfl, hq⟩; have hq2 := hq.symm; clear hq; subst hq2)
  go_ret
  exact ⟨rfl, rfl⟩
end Go.Proofs.Ytmfpiodlecapiaa
