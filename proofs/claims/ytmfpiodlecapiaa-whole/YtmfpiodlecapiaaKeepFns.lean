/- What the statements' own helpers answer: a plan out of raw numbers, an object's bytes cut short, whether there would be too many blocks. -/
import Derived.Test.YtmfpiodlecapiaaRingWalk
import Derived.Laws.IdiomStrings
namespace Go.Proofs.Ytmfpiodlecapiaa
open Go.RowKit Go.Deep

theorem pick_lit (c : Int) (n : Nat) (m : Int) (hm : m = (n : Int)) (hc : (Lit.int .i64 c).wf = true) (hn : 0 < n) (hn2 : n ≤ 65536) (w : World) :
    Calls Try.prog 18 #[.int .i64 c, .int .i64 m] w fun e w' => e = .returned (.int .i64 (pickN c n : Nat)) ∧ w' = w := by
  subst hm; exact pick_walk c n hc hn hn2 w

set_option maxRecDepth 20000 in
theorem fit_walk (x y z : Int) (w0 : Hid ((Lit.int .i64 x).wf = true)) (w1 : Hid ((Lit.int .i64 y).wf = true)) (w2 : Hid ((Lit.int .i64 z).wf = true)) (w : World) :
    Calls Try.prog 20 #[.int .i64 x, .int .i64 y, .int .i64 z] w fun e w' =>
      e = .returned (.agg #[.int .i64 ((1 + pickN x 16 : Nat) : Int), .int .i64 ((1 + pickN y 20 : Nat) : Int), .int .i64 ((pickN z 21 : Nat) : Int)]) ∧ Below w.heap.size w w' := by
  have h0 := pickN_lt x (n := 16) (by omega)
  have h1 := pickN_lt y (n := 20) (by omega)
  have h2 := pickN_lt z (n := 21) (by omega)
  have P0 := hide (fun w => pick_lit x 16 16 rfl w0.out (by omega) (by omega) w)
  have P1 := hide (fun w => pick_lit y 20 20 rfl w1.out (by omega) (by omega) w)
  have P2 := hide (fun w => pick_lit z 21 21 rfl w2.out (by omega) (by omega) w)
  have hb0 := hide ((Below.refl w.heap.size w).alloc (Nat.le_refl _) (.cells #[.int .i64 0, .int .i64 0, .int .i64 0] 30))
  revert h0 h1 h2 P0 P1 P2
  generalize pickN x 16 = a
  generalize pickN y 20 = b
  generalize pickN z 21 = c
  intro h0 h1 h2 P0 P1 P2
  go_enter Try.func20, Try.ntmps20
  go_wp2_with fail
  refine (P0.out _).mono ?_
  rintro _ wq ⟨rfl, hx1⟩
  have hx2 := hx1.symm
  clear hx1
  subst hx2
  go_wp2_with fail
  refine (P1.out _).mono ?_
  rintro _ wq ⟨rfl, hx1⟩
  have hx2 := hx1.symm
  clear hx1
  subst hx2
  go_wp2_with fail
  refine (P2.out _).mono ?_
  rintro _ wq ⟨rfl, hx1⟩
  have hx2 := hx1.symm
  clear hx1
  subst hx2
  go_wp2
  refine bodyPost_ret (v := .agg #[.int .i64 (1 + (a : Int)), .int .i64 (1 + (b : Int)), .int .i64 (c : Int)]) (by simp [results, Try.results20, go_sem]) rfl ⟨?_, (Below.refl _ _).alloc (Nat.le_refl _) _⟩
  have e1 : ((1 + a : Nat) : Int) = 1 + (a : Int) := by omega
  have e2 : ((1 + b : Nat) : Int) = 1 + (b : Int) := by omega
  rw [e1, e2]

/- The bytes of a string. -/
def bytesOf (s : ByteArray) : List Nat := s.data.toList.map UInt8.toNat
theorem bytesOf_length (s : ByteArray) : (bytesOf s).length = s.size := by
  unfold bytesOf
  rw [List.length_map, Array.length_toList]; rfl
theorem bytesOf_lt (s : ByteArray) : ∀ x ∈ bytesOf s, x < 256 := by
  intro x hx
  unfold bytesOf at hx
  obtain ⟨b, _, rfl⟩ := List.mem_map.1 hx
  exact b.toNat_lt
theorem bytesOf_take (s : ByteArray) (n : Nat) : bytesOf (s.extract 0 n) = (bytesOf s).take n := by
  unfold bytesOf
  rw [ByteArray.data_extract]
  simp [List.map_take]
theorem objAt_made (w : World) (t : ByteArray) (cap : Nat) (fr : Nat × Nat) : ObjAt (w.alloc (.cells (bytesRow t cap) 5 fr)) (some ⟨w.heap.size, 0, none⟩) t.size (bytesOf t) := by
  refine ⟨bytesOf_length t, bytesOf_lt t, fun _ => ⟨_, _, rfl, fun j hj => ?_⟩⟩
  rw [Nat.zero_add]
  apply cell_alloc_any
  have hj' : j < t.data.size := hj
  unfold bytesRow bytesOf
  rw [Array.getElem?_append_left (by simpa using hj)]
  have e : t.data[j]? = some (t.data[j]'hj') := Array.getElem?_eq_getElem hj'
  simp [e]

set_option maxRecDepth 20000 in
theorem short_walk (s : ByteArray) (m n : Nat) (hm : m ≤ 65536) (hs : s.size ≤ maxLen) (hn : n = min s.size m) (w : World) :
    Calls Try.prog 21 #[.string s, .int .i64 m] w fun e w' =>
      ∃ cap, e = .returned (.slice (some ⟨w.heap.size, 0, none⟩) n cap) ∧ n ≤ cap ∧ cap ≤ maxLen ∧ ObjAt w' (some ⟨w.heap.size, 0, none⟩) n ((bytesOf s).take n) ∧ Below w.heap.size w w' := by
  have kc := fun (w : World) (s : ByteArray) => run_bytes_of_string (P := Try.prog) w 9 36 5 s Try.underlying9 Try.underlying36 Try.underlying5
  have hs' := hs
  unfold maxLen at hs'
  by_cases h : m < s.size
  · have e : n = m := by omega
    subst e
    clear hn
    have hO := hide (objAt_made w (s.extract 0 n) (grownCap w (min n s.size) 0 5) ((bytesRow (s.extract 0 n) (grownCap w (min n s.size) 0 5)).size, (bytesRow (s.extract 0 n) (grownCap w (min n s.size) 0 5)).size + 1))
    have hmin : Hid (min n s.size = n) := by show min n s.size = n; omega
    have hge := hide (grownCap_ge w (min n s.size) 0 5)
    have hle := hide (grownCap_le_maxLen w (min n s.size) 0 5 (by omega))
    have hsz : Hid ((s.extract 0 n).size = n) := by show _ = _; rw [ByteArray.size_extract]; omega
    go_enter Try.func21, Try.ntmps21
    go_wp2
    go_ret
    refine ⟨grownCap w (min n s.size) 0 5, ?_, ?_, hle.out, ?_, ((Below.refl _ _).alloc (Nat.le_refl _) _).drew⟩
    · show Ending.returned (.slice _ (min n s.size) _) = _
      rw [hmin.out]
    · have := hge.out; have := hmin.out; omega
    · have h1 := hO.out
      rw [hsz.out, bytesOf_take] at h1
      exact h1.later ((Below.refl _ _).drew)
  · have e : n = s.size := by omega
    subst e
    clear hn
    have hO := hide (objAt_made w s (grownCap w s.size 0 5) ((bytesRow s (grownCap w s.size 0 5)).size, (bytesRow s (grownCap w s.size 0 5)).size + 1))
    have hge := hide (grownCap_ge w s.size 0 5)
    have hle := hide (grownCap_le_maxLen w s.size 0 5 hs)
    go_enter Try.func21, Try.ntmps21
    go_wp2
    go_ret
    refine ⟨grownCap w s.size 0 5, rfl, hge.out, hle.out, ?_, ((Below.refl _ _).alloc (Nat.le_refl _) _).drew⟩
    rw [List.take_of_length_le (by rw [bytesOf_length]; omega)]
    exact hO.out.later ((Below.refl _ _).drew)

/- Would there be too many blocks? -/
def manyN (len s m : Nat) : Bool := decide (256 < ((len + s - 1) / s + m - 1) / m)
theorem manyN_eq {len s m : Nat} (hm : 1 ≤ m) : manyN len s m = !decide (Cut.blocks (Cut.pieces len s) m ≤ 256) := by
  unfold manyN Cut.blocks Cut.pieces
  rcases Nat.lt_or_ge ((len + s - 1) / s) 1 with h | h
  · have e : (len + s - 1) / s = 0 := Nat.lt_one_iff.1 h
    rw [e]
    have e2 : max 1 0 = 1 := rfl
    have h1 : (0 + m - 1) / m = 0 := Nat.div_eq_of_lt (by omega)
    have h2 : (max 1 0 + m - 1) / m = 1 := by rw [e2, show 1 + m - 1 = m by omega]; exact Nat.div_self (by omega)
    rw [h1, h2]; decide
  · have e : max 1 ((len + s - 1) / s) = (len + s - 1) / s := by omega
    rw [e]
    by_cases h : ((len + s - 1) / s + m - 1) / m ≤ 256
    · rw [decide_eq_true h, decide_eq_false (by omega)]; rfl
    · rw [decide_eq_false h, decide_eq_true (by omega)]; rfl

set_option maxRecDepth 20000 in
theorem many_walk (len s m p : Nat) (hl : len ≤ 65536) (h1 : 1 ≤ s) (h2 : s ≤ 16) (h3 : 1 ≤ m) (h4 : m ≤ 20) (w : World) :
    Calls Try.prog 24 #[.int .i64 len, .agg #[.int .i64 s, .int .i64 m, .int .i64 p]] w fun e w' => e = .returned (.bool (manyN len s m)) ∧ Below w.heap.size w w' := by
  have hb0 := hide ((Below.refl w.heap.size w).alloc (Nat.le_refl _) (.cells #[.int .i64 s, .int .i64 m, .int .i64 p] 30))
  obtain ⟨q, hq⟩ : ∃ q, q = (len + s - 1) / s := ⟨_, rfl⟩
  obtain ⟨r, hr⟩ : ∃ r, r = (q + m - 1) / m := ⟨_, rfl⟩
  have e1 : ((len : Int) + (s : Int) - 1) / (s : Int) = (q : Int) := by
    rw [hq, Int.natCast_ediv]; congr 1; omega
  have hq2 : q ≤ 65552 := by
    rw [hq]; exact Nat.le_trans (Nat.div_le_self _ _) (by omega)
  have e2 : ((q : Int) + (m : Int) - 1) / (m : Int) = (r : Int) := by
    rw [hr, Int.natCast_ediv]; congr 1; omega
  have hB : Hid (manyN len s m = decide ((256 : Int) < (r : Int))) := by
    show _ = _
    unfold manyN
    rw [← hq, ← hr]
    by_cases h : 256 < r
    · rw [decide_eq_true h, decide_eq_true (by omega)]
    · rw [decide_eq_false h, decide_eq_false (by omega)]
  have hr2 : r ≤ 70000 := by rw [hr]; exact Nat.le_trans (Nat.div_le_self _ _) (by omega)
  clear hq hr
  rw [hB.out]
  go_enter Try.func24, Try.ntmps24
  go_wp2
  go_ret
  exact ⟨rfl, hb0.out⟩
end Go.Proofs.Ytmfpiodlecapiaa
