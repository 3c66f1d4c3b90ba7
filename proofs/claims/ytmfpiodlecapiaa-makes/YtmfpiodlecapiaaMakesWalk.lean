/- Packets of any object, with any plan; again, and of the document's own: what came out is the caller's own. -/
import Derived.Test.YtmfpiodlecapiaaMakesPackets
import Derived.Test.YtmfpiodlecapiaaCutsWalk
namespace Go.Proofs.Ytmfpiodlecapiaa
open Go.RowKit Go.Deep

structure MS (w : World) (pl : List Value) (k : Nat) (w1 : World) (d : Wd) (bs ls ts : List Value) : Prop where
  plan : RowL w1 w.heap.size 30 pl
  st : St w1 (w.heap.size + 1) d bs ls ts
  below : Below w.heap.size w w1
  nb : ∀ k, d.bytes.ownBlock = some k → w.heap.size ≤ k
  nl : ∀ k, d.lists.ownBlock = some k → w.heap.size ≤ k
  nt : ∀ k, d.turned.ownBlock = some k → w.heap.size ≤ k
  lb4 : bs.length % 4 = 0
  lb : bs.length ≤ 28800 * k
  ll : ls.length = 4 * k
  lt : ts.length = k
theorem MS.step {w w1 w2 : World} {pl : List Value} {k T : Nat} {d d' : Wd} {bs ls ts bs' ls' ts' : List Value} (h : MS w pl k w1 d bs ls ts) (hT : T ≤ 7200) (hp : PkPost w1 (w.heap.size + 1) T bs.length ls.length ts.length d d' bs' ls' ts' w2) : MS w pl (k + 1) w2 d' bs' ls' ts' := by
  refine ⟨hp.kp.row h.plan (fun hx => ?_), hp.st, h.below.trans (hp.kp.toBelow (fun q hq => ?_) h.below.size), fun q hq => ?_, fun q hq => ?_, fun q hq => ?_, ?_, ?_, ?_, ?_⟩
  · rcases hx with hx | hx | hx | hx
    · omega
    · exact h.st.wb.own.ne_type h.plan (by decide) hx
    · exact h.st.ol.ne_type h.plan (by decide) hx
    · exact h.st.ot.ne_type h.plan (by decide) hx
  · rcases hq with hq | hq | hq | hq
    · omega
    · exact h.nb q hq
    · exact h.nl q hq
    · exact h.nt q hq
  · rcases hp.nb q hq with h1 | h1
    · exact h.nb q h1
    · exact Nat.le_trans h.below.size h1
  · rcases hp.nl q hq with h1 | h1
    · exact h.nl q h1
    · exact Nat.le_trans h.below.size h1
  · rcases hp.nt q hq with h1 | h1
    · exact h.nt q h1
    · exact Nat.le_trans h.below.size h1
  · have := h.lb4; rw [hp.lb]; omega
  · have := h.lb; rw [hp.lb]; omega
  · have := h.ll; rw [hp.ll]; omega
  · rw [hp.lt, h.lt]
theorem MS.call {w w1 : World} {pl : List Value} {k n : Nat} {d : Wd} {bs ls ts : List Value} (h : MS w pl k w1 d bs ls ts) (hk : k ≤ 10) (id s m q : Int) (S : ByteArray) (hn : S.size = n) (hn2 : n ≤ 140737488355328) :
    Calls Try.prog 16 #[.pointer (some ⟨w.heap.size + 1, 0, none⟩), .agg (opV id s m q S)] w1 fun e w' => e = .returned (.bool true) ∧ ∃ d' bs' ls' ts', MS w pl (k + 1) w' d' bs' ls' ts' := by
  have h1 := h.lb; have h2 := h.ll; have h3 := h.lt
  refine (packets_walk (w.heap.size + 1) n _ _ _ id s m q S d bs ls ts hn hn2 rfl h.lb4 (by omega) rfl (by omega) (by omega) rfl (by omega) w1 h.st).mono ?_
  rintro e w' ⟨rfl, T, d', bs', ls', ts', hT, hp⟩
  exact ⟨rfl, d', bs', ls', ts', h.step hT hp⟩

theorem st_new (w : World) : St (w.alloc (.cells nils 38)) w.heap.size d0 [] [] [] :=
  ⟨⟨rowL_alloc' w nils 38, ownS_nil _ _, by intro i sv hs; simp at hs⟩, ownS_nil _ _, by intro i sv hs; simp at hs, ownS_nil _ _, by intro i sv hs; simp at hs,
    by intro k hk; simp [d0, Value.ownBlock] at hk, by intro i sv k hs; simp at hs, rfl⟩

set_option maxRecDepth 20000 in
set_option maxHeartbeats 1000000 in
theorem makes_walk (id s m q : Int) (S : ByteArray) (n : Nat) (hn : S.size = n) (hn2 : n ≤ 140737488355328) (w : World) :
    Calls Try.prog 5 #[.int .i64 id, .string S, .agg #[.int .i64 s, .int .i64 m, .int .i64 q]] w fun e w' => e = .returned (.bool true) ∧ Below w.heap.size w w' := by
  have hrow0 := (rowL_alloc' w #[.int .i64 s, .int .i64 m, .int .i64 q] 30).alloc (.cells nils 38)
  have g0 := hrow0.cell 0 _ rfl
  have g1 := hrow0.cell 1 _ rfl
  have g2 := hrow0.cell 2 _ rfl
  have H0 : Hid (MS w [.int .i64 s, .int .i64 m, .int .i64 q] 0 ((w.alloc (.cells #[.int .i64 s, .int .i64 m, .int .i64 q] 30)).alloc (.cells nils 38)) d0 [] [] []) := by
    refine ⟨hrow0, ?_, ?_, by intro k hk; simp [d0, Value.ownBlock] at hk, by intro k hk; simp [d0, Value.ownBlock] at hk, by intro k hk; simp [d0, Value.ownBlock] at hk, rfl, Nat.le_refl _, rfl, rfl⟩
    · have h := st_new (w.alloc (.cells #[.int .i64 s, .int .i64 m, .int .i64 q] 30))
      have e : (w.alloc (.cells #[.int .i64 s, .int .i64 m, .int .i64 q] 30)).heap.size = w.heap.size + 1 := by simp
      rw [e] at h; exact h
    · exact ((Below.refl w.heap.size w).alloc (Nat.le_refl _) _).alloc (by simp) _
  clear hrow0
  have C1 := hide (H0.out.call (by omega) id s m q S hn hn2)
  go_enter Try.func5, Try.ntmps5
  go_wp2_with fail
  go_at_call 16
  refine C1.out.mono ?_
  rintro e1 w1 ⟨rfl, d1, bs1, ls1, ts1, h1⟩
  clear g0 g1 g2
  replace h1 := hide h1
  go_wp2_with fail
  go_at_call 16
  refine (h1.out.call (by omega) 5 2 1 1 ⟨#[97, 98]⟩ (n := 2) rfl (by omega)).mono ?_
  rintro e2 w2 ⟨rfl, d2, bs2, ls2, ts2, h2⟩
  have g0 := h2.plan.cell 0 _ rfl
  have g1 := h2.plan.cell 1 _ rfl
  have g2 := h2.plan.cell 2 _ rfl
  replace h2 := hide h2
  go_wp2_with fail
  go_at_call 16
  refine (h2.out.call (by omega) id s m q S hn hn2).mono ?_
  rintro e3 w3 ⟨rfl, d3, bs3, ls3, ts3, h3⟩
  clear g0 g1 g2
  replace h3 := hide h3
  go_wp2_with fail
  go_at_call 15
  refine (kept_walk (w.heap.size + 1) d3 nilS bs3 ls3 [] ts3 [] _ h3.out.st.kept (by have := h3.out.lb; omega) (by have := h3.out.ll; omega) (by simp) h3.out.st.wb.small).mono ?_
  rintro e4 w4 ⟨rfl, nq, rfl⟩
  go_wp2_with fail
  go_ret
  exact ⟨rfl, h3.out.below.os, h3.out.below.tape, h3.out.below.output, h3.out.below.size, h3.out.below.block⟩
end Go.Proofs.Ytmfpiodlecapiaa
