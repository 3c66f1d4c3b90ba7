/- What Packets answers: the document's packets, each in memory of its own; or a refusal. -/
import Derived.Test.YtmfpiodlecapiaaPackWalks
import Derived.Laws.CopyOwn
namespace Go.Proofs.Ytmfpiodlecapiaa
open Go.RowKit Go.Deep
attribute [local go_sem ↓] Go.wp_at_zero Go.wp_at_succ

/- A slice of n bytes, nil or not. -/
def ObjAt (w : World) (ao : Option Addr) (n : Nat) (obj : List Nat) : Prop :=
  obj.length = n ∧ (∀ x ∈ obj, x < 256) ∧ (0 < n → ∃ b off, ao = some ⟨b, off, none⟩ ∧ ∀ j, j < n → w.cell? ⟨b, off + j, none⟩ = some (.int .u8 ((obj[j]?.getD 0 : Nat) : Int)))
theorem ObjAt.later {w w' : World} {ao : Option Addr} {n : Nat} {obj : List Nat} (h : ObjAt w ao n obj) (hb : Below w.heap.size w w') : ObjAt w' ao n obj := by
  refine ⟨h.1, h.2.1, fun hn => ?_⟩
  obtain ⟨b, off, e, hc⟩ := h.2.2 hn
  exact ⟨b, off, e, fun j hj => cell_later hb (hc j hj)⟩

theorem Pk.filled_length {obj : List Nat} {M : Nat} (h : obj.length ≤ M) : (Pk.filled obj M).length = M := by simp [Pk.filled]; omega
theorem Pk.filled_lt {obj : List Nat} {M : Nat} (h : ∀ x ∈ obj, x < 256) : ∀ x ∈ Pk.filled obj M, x < 256 := by
  intro x hx
  simp only [Pk.filled, List.mem_append, List.mem_replicate] at hx
  rcases hx with hx | ⟨_, rfl⟩
  · exact h x hx
  · decide

theorem sum_take_succ {l : List Nat} {k x : Nat} (h : l[k]? = some x) : (l.take (k + 1)).sum = (l.take k).sum + x := by
  rw [← take_snoc h, List.sum_append]; simp
theorem sum_take_le (l : List Nat) (k : Nat) : (l.take k).sum ≤ l.sum := by
  have : (l.take k).sum + (l.drop k).sum = l.sum := by rw [← List.sum_append, List.take_append_drop]
  omega

set_option maxRecDepth 20000 in
theorem fillUp_walk (ao : Option Addr) (n cap gB Z capB s N M : Nat) (obj L : List Nat) (hLz : Hid (L.length = Z)) (hN : Hid (L.sum = N)) (hN2 : N ≤ 4096) (hM : (N : Int) * (s : Int) = (M : Int)) (hM2 : M ≤ 65536) (hnM : n ≤ M) (hZ : Z ≤ 4096) (w : World)
    (hobj : ObjAt w ao n obj) (hB : RowL w gB 3 (i64s L)) :
    Calls Try.prog 46 #[.slice ao n cap, .slice (some ⟨gB, 0, none⟩) Z capB, .int .i64 s] w fun e w' =>
      e = .returned (.slice (some ⟨w.heap.size, 0, none⟩) M M) ∧ Below w.heap.size w w' ∧ RowL w' w.heap.size 5 (u8s (Pk.filled obj M)) := by
  obtain ⟨i0, hi, hz0, hz1, hz2⟩ := info_parts Try.infoByte
  have HB := hide hB; have HO := hide hobj
  clear hB hobj
  go_enter Try.func46, Try.ntmps46
  go_wp2
  go_loop [7, 13] (fun v x => ∃ k t : Nat, k ≤ Z ∧ x = .int .i64 k ∧ v = .int .i64 t ∧ t ≤ 4096 ∧ Hid (t = (L.take k).sum)) (fun _ x => leftOf Z (intOf x).toNat)
  case atStart => exact ⟨0, 0, by omega, rfl, rfl, by omega, show 0 = _ by simp⟩
  case round =>
    obtain ⟨k, t, hk, rfl, rfl, ht, hsum⟩ := hrel
    by_cases hlt : k < Z
    · have hlk : k < L.length := by rw [hLz.out]; exact hlt
      have hc : w.cell? ⟨gB, k, none⟩ = some (.int .i64 ((L[k]?.getD 0 : Nat) : Int)) := HB.out.cell k _ (i64s_at hlk)
      have hS : Hid (t + L[k]?.getD 0 = (L.take (k + 1)).sum) := by
        show _ = _
        rw [sum_take_succ (getD_some hlk), hsum.out]
      have hle : t + L[k]?.getD 0 ≤ 4096 := by
        rw [hS.out]
        have := sum_take_le L (k + 1)
        rw [hN.out] at this; omega
      revert hc hS hle
      generalize L[k]?.getD 0 = x
      intro hc hS hle
      clear hlk
      go_wp2
      go_round
      case rel => exact ⟨k + 1, t + x, by omega, by go_num, by go_num, hle, hS⟩
      case measure => refine leftOf_lt ?_ ?_ <;> simp only [intOf] <;> omega
    · have e : k = Z := by omega
      have e2 : t = N := by rw [hsum.out, e, ← hLz.out, List.take_length]; exact hN.out
      subst e2
      subst e
      have ho1 := HO.out.1
      have hsrc : Hid (0 < (u8s obj).length → (some (⟨w.heap.size, 0, none⟩ : Addr) = some ⟨w.heap.size, 0, none⟩) ∧ ∃ ad, ao = some ad ∧ ∀ j v, (u8s obj)[j]? = some v → (w.alloc (.cells (madeCells #[.int .u8 0] M) 5)).cell? (ad.add j) = some v) := by
        intro hpos
        rw [u8s_length, ho1] at hpos
        obtain ⟨b, off, e, hc⟩ := HO.out.2.2 hpos
        refine ⟨rfl, _, e, ?_⟩
        intro j v hjv
        have hj : j < n := by
          have := (List.getElem?_eq_some_iff.1 hjv).1
          rw [u8s_length, ho1] at this; exact this
        rw [u8s_at (by rw [ho1]; exact hj)] at hjv
        rw [Addr.add_lit, ← hjv]
        exact cell_later ((Below.refl _ _).alloc (Nat.le_refl _) _) (hc j hj)
      have hlen : Hid ((u8s obj).length = n) := by show _ = _; rw [u8s_length, ho1]
      have hrow : Hid (RowL (w.alloc (.cells (madeCells #[.int .u8 0] M) 5)) w.heap.size 5 (List.replicate M (.int .u8 0))) := rowL_made _ _ _ _
      clear ho1
      go_wp2_with first | (at_make; refine wpList_mk _ rfl _ _ 36 rfl 5 i0 (.int .u8 0) Try.underlying36 hi hz0 hz1 rfl .i64 .i64 M M rfl rfl (by omega) (by rw [hz2]; omega) (by omega) ?_) | (refine wpList_copy_splice rfl (.tmp 25) (.tmp 26) 36 36 rfl 5 Try.underlying36 (by kernel_rfl) _ _ M M n cap rfl rfl w.heap.size 0 _ 5 hrow.out (u8s obj) (by rw [hlen.out]; show n = min n M; omega) hsrc.out (by rw [hlen.out]; simp; omega) (by intro u hu; obtain ⟨x, _, rfl⟩ := List.mem_map.1 hu; rfl) w.heap.size w ((Below.refl _ _).alloc (Nat.le_refl _) _) (Nat.le_refl _) ?_)
      intro w1 hr1 hb1
      have hr1' : Hid (RowL w1 w.heap.size 5 (u8s (Pk.filled obj M))) := by
        have h := hr1.out
        have e : splice (List.replicate M (Value.int .u8 0)) 0 (u8s obj) = u8s (Pk.filled obj M) := by
          simp [splice, u8s, Pk.filled]
        rw [e] at h; exact h
      have HB1 := hide hb1
      clear hr1 hb1
      go_wp2
      go_ret
      exact ⟨rfl, HB1.out, hr1'.out⟩

/- Packets in memory: each a row of its own, shown whole by a slice without spare room. -/
def packV (c g : Nat) : Value := .slice (some ⟨g, 0, none⟩) c c
structure Packs (w : World) (B : Nat) (v : Value) (c : Nat) (ps : List (List Nat)) (gs : List Nat) : Prop where
  own : OwnS w 36 v (gs.map (packV c))
  len : gs.length = ps.length
  row : ∀ (i g : Nat) (bs : List Nat), gs[i]? = some g → ps[i]? = some bs → RowL w g 5 (u8s bs)
  from_ : ∀ g ∈ gs, B ≤ g
  nodup : gs.Nodup
  at_ : ∀ k, v.ownBlock = some k → B ≤ k
theorem Packs.has {w : World} {B : Nat} {v : Value} {c : Nat} {ps : List (List Nat)} {gs : List Nat} (h : Packs w B v c ps gs) {g : Nat} (hg : g ∈ gs) : ∃ bs, RowL w g 5 (u8s bs) := by
  obtain ⟨i, hi, rfl⟩ := List.mem_iff_getElem.1 hg
  have hi' : i < ps.length := by rw [← h.len]; exact hi
  exact ⟨ps[i], h.row i _ _ (by simp [hi]) (by simp [hi'])⟩
theorem Packs.lt {w : World} {B : Nat} {v : Value} {c : Nat} {ps : List (List Nat)} {gs : List Nat} (h : Packs w B v c ps gs) {g : Nat} (hg : g ∈ gs) : g < w.heap.size := by
  obtain ⟨bs, hr⟩ := h.has hg
  exact hr.lt
theorem Packs.of_block {w w' : World} {B : Nat} {v : Value} {c : Nat} {ps : List (List Nat)} {gs : List Nat} (h : Packs w B v c ps gs) (hg : ∀ g ∈ gs, w'.heap[g]? = w.heap[g]?) (hv : ∀ k, v.ownBlock = some k → w'.heap[k]? = w.heap[k]?) : Packs w' B v c ps gs :=
  ⟨h.own.of_block hv, h.len, fun i g bs h1 h2 => (h.row i g bs h1 h2).of_block (hg g (List.mem_of_getElem? h1)), h.from_, h.nodup, h.at_⟩
theorem Packs.later {w w' : World} {B : Nat} {v : Value} {c : Nat} {ps : List (List Nat)} {gs : List Nat} (h : Packs w B v c ps gs) (hb : Below w.heap.size w w') : Packs w' B v c ps gs :=
  h.of_block (fun _ hg => hb.block _ (h.lt hg)) (fun _ hk => hb.block _ (h.own.lt hk))
theorem Packs.mono {w : World} {B B' : Nat} {v : Value} {c : Nat} {ps : List (List Nat)} {gs : List Nat} (h : Packs w B v c ps gs) (hB : B' ≤ B) : Packs w B' v c ps gs :=
  ⟨h.own, h.len, h.row, fun g hg => Nat.le_trans hB (h.from_ g hg), h.nodup, fun k hk => Nat.le_trans hB (h.at_ k hk)⟩
theorem Packs.nil (w : World) (B c : Nat) : Packs w B (.slice none 0 0) c [] [] :=
  ⟨ownS_nil _ _, rfl, by intro i g bs h; simp at h, by simp, List.nodup_nil, by intro k hk; simp [Value.ownBlock] at hk⟩
/- A store into a block of another type. -/
theorem Packs.setCell {w : World} {B : Nat} {v : Value} {c : Nat} {ps : List (List Nat)} {gs : List Nat} (h : Packs w B v c ps gs) {b i : Nat} {t : TypeId} {L : List Value} (hb : RowL w b t L) (h1 : t ≠ (5 : Nat)) (h2 : t ≠ (36 : Nat)) (u : Value) : Packs (w.setCell ⟨b, i, none⟩ u) B v c ps gs := by
  refine h.of_block (fun g hg => ?_) (fun k hk => ?_)
  · obtain ⟨bs, hr⟩ := h.has hg
    exact blk_setCell_other _ _ _ _ (hr.ne_of_type hb (fun e => h1 e.symm))
  · refine blk_setCell_other _ _ _ _ (fun e => ?_)
    have e' : k = b := e
    subst e'
    exact h.own.ne_type hb h2 hk
/- One packet more. -/
theorem Packs.step {w w3 w4 : World} {B : Nat} {v v' : Value} {c g : Nat} {ps : List (List Nat)} {gs bs : List Nat} {o : Obj} (h : Packs w B v c ps gs) (hb : Below w.heap.size w w3) (hg : RowL w3 g 5 (u8s bs)) (hge : w.heap.size ≤ g) (hB : B ≤ w.heap.size)
    (ha : AppTo (w3.alloc o) w4 36 v v' (gs.map (packV c)) [packV c g]) : Packs w4 B v' c (ps ++ [bs]) (gs ++ [g]) := by
  have h3 := (h.later hb).later ((Below.refl _ _).alloc (Nat.le_refl _) o)
  have hB3 : B ≤ (w3.alloc o).heap.size := by have := hb.size; simp; omega
  have hrow : ∀ g' bs', RowL (w3.alloc o) g' 5 (u8s bs') → RowL w4 g' 5 (u8s bs') := fun g' bs' hr => ha.other hr (h3.own.ne_type hr (by decide))
  refine ⟨by have := ha.own; simpa using this, by simp [h.len], ?_, ?_, ?_, ha.from hB3 h.at_⟩
  · intro i g' bs' h1 h2
    by_cases hi : i < gs.length
    · rw [List.getElem?_append_left hi] at h1
      rw [List.getElem?_append_left (by rw [← h.len]; exact hi)] at h2
      exact hrow _ _ (h3.row i g' bs' h1 h2)
    · rw [List.getElem?_append_right (by omega)] at h1
      rw [List.getElem?_append_right (by rw [← h.len]; omega)] at h2
      have hi0 : i - gs.length = 0 := by
        rcases Nat.eq_zero_or_pos (i - gs.length) with h0 | h0
        · exact h0
        · rw [List.getElem?_eq_none (by simp; omega)] at h1; simp at h1
      rw [hi0] at h1
      rw [← h.len, hi0] at h2
      simp at h1 h2
      subst h1 h2
      exact hrow _ _ (hg.alloc o)
  · intro g' hg'
    rcases List.mem_append.1 hg' with h1 | h1
    · exact h.from_ g' h1
    · simp at h1; subst h1; omega
  · rw [List.nodup_append]
    refine ⟨h.nodup, by simp, ?_⟩
    intro a ha' b' hb' e
    simp at hb'
    have := h.lt ha'
    omega

set_option maxRecDepth 20000 in
set_option maxHeartbeats 1000000 in
theorem appendPackets_walk (b off c0 id len s m p z q0 K n T c B : Nat) (D blk gs : List Nat) (v : Value) (ps : List (List Nat)) (hid : id < 65536) (hlen : len < 65536) (hs1 : 1 ≤ s) (hs : s ≤ 16) (hm : m ≤ 20) (hp : p ≤ 20) (hz : z < 256) (hK1 : 1 ≤ K) (hK : K ≤ 20)
    (hl : Hid (blk.length = K * s)) (hn : Hid (n = K * s)) (hx : ∀ x ∈ blk, x < 256) (hn2 : n ≤ 65536) (hnc : n ≤ c0) (hc2 : c0 ≤ 9223372036854775807) (hT : (K : Int) + (p : Int) = (T : Int)) (hc : (10 : Int) + (s : Int) = (c : Int)) (w : World)
    (hb : RowL w b 5 (u8s D)) (hD : Hid (∀ q, q < n → D[off + q]? = blk[q]?)) (hps : Packs w B v c ps gs) (hB : B ≤ w.heap.size) (hpl : ps.length ≤ 65536) :
    Calls Try.prog 47 #[v, .agg #[.int .i64 id, .int .i64 len, .int .i64 s, .int .i64 m, .int .i64 p, .int .i64 z, .int .i64 q0], .slice (some ⟨b, off, none⟩) n c0] w fun e w' =>
      ∃ v' gs', e = .returned v' ∧ Packs w' B v' c (ps ++ Pk.ofBlock id len s m p z K blk) gs' ∧ Kp (fun k => v.ownBlock = some k) w w' := by
  obtain ⟨i0, hi, hz0, hz1, hz2⟩ := info_parts Try.infoBytes
  have hb0 := hide ((Below.refl w.heap.size w).alloc (Nat.le_refl _) (.cells #[.int .i64 id, .int .i64 len, .int .i64 s, .int .i64 m, .int .i64 p, .int .i64 z, .int .i64 q0] 83))
  have hP := hide (pieces_walk b off s c0 K n m p T D blk hl hn hx hs1 hs hK1 hK hp hn2 hnc hc2 hT (w.alloc (.cells #[.int .i64 id, .int .i64 len, .int .i64 s, .int .i64 m, .int .i64 p, .int .i64 z, .int .i64 q0] 83)) (hb.alloc _) hD)
  have hbx := hide (rowL_alloc' w #[.int .i64 id, .int .i64 len, .int .i64 s, .int .i64 m, .int .i64 p, .int .i64 z, .int .i64 q0] 83)
  have HPS := hide hps
  clear hps hb
  have hT' : Hid (T = K + p) := by show T = K + p; omega
  have hc' : Hid (c = 10 + s) := by show c = 10 + s; omega
  go_enter Try.func47, Try.ntmps47
  go_wp2_with (go_at_call 65; refine hP.out.mono ?_; rintro _ w2 ⟨gP, capP, cur, rfl, hrP, hgP, hb2, hpc⟩; replace hrP := hide hrP; replace hb2 := hide hb2; replace hpc := hide hpc)
  have hw12 : w.heap.size < w2.heap.size := by have := hb2.out.size; simp at this; omega
  have hgP' : w.heap.size + 1 ≤ gP := by simp at hgP; omega
  have hbx2 := hide (hbx.out.later hb2.out)
  have HPS2 := hide ((HPS.out.later hb0.out).later hb2.out)
  have hXP : Hid (¬ (gP = w.heap.size ∨ v.ownBlock = some gP)) := by
    rintro (h | h)
    · omega
    · have := HPS.out.own.lt h; omega
  have hXb : Hid (∀ g L, RowL w2 g 5 L → ¬ (g = w.heap.size ∨ v.ownBlock = some g)) := by
    rintro g L hr (h | h)
    · subst h; exact absurd (hr.unique hbx2.out).1 (by decide)
    · exact HPS2.out.own.ne_type hr (by decide) h
  clear hgP
  go_loopw [0, 14] (fun v' x wr => ∃ (k x6 : Nat) (gs' : List Nat), k ≤ T ∧ x = .int .i64 k ∧ Packs wr B v' c (ps ++ (Pk.ofBlock id len s m p z K blk).take k) gs' ∧ Kp (fun k => k = w.heap.size ∨ v.ownBlock = some k) w2 wr ∧
      RowL wr w.heap.size 83 [.int .i64 id, .int .i64 len, .int .i64 s, .int .i64 m, .int .i64 p, .int .i64 z, .int .i64 x6] ∧ (∀ k, v'.ownBlock = some k → v.ownBlock = some k ∨ w2.heap.size ≤ k))
    (fun _ x _ => leftOf T (intOf x).toNat)
  case atStart => exact ⟨0, q0, gs, by omega, rfl, by simpa using HPS2.out, Kp.refl _ _, hbx2.out, fun k hk => Or.inl hk⟩
  case round =>
    obtain ⟨k, x6, gs', hk, rfl, hpk, hkp, hbox, hat⟩ := hrel
    by_cases hlt : k < T
    · obtain ⟨sv, hcur, b', off', cap', L, rfl, q1, q2, q3, q4⟩ := hpc.out k hlt
      have hcell : wr.cell? ⟨gP, k, none⟩ = some (.slice (some ⟨b', off', none⟩) s cap') := (hkp.row hrP.out hXP.out).cell k _ hcur
      have hrL := hkp.row q3 (hXb.out b' L q3)
      have hbb : b' ≠ w.heap.size := fun e => hXb.out b' L q3 (Or.inl e)
      have e0 := hbox.cell 0 _ rfl
      have e1 := hbox.cell 1 _ rfl
      have e2 := hbox.cell 2 _ rfl
      have e3 := hbox.cell 3 _ rfl
      have e4 := hbox.cell 4 _ rfl
      have e5 := hbox.cell 5 _ rfl
      have e6 := hbox.cell 6 _ rfl
      have f6 := hbox.frozen 6
      have hPk := hide (pack_walk b' off' cap' id len s m p z k c (Pk.pieceN blk s K k) hid hlen hs1 hs (by omega) (by omega) hz (by omega) hc (Pk.pieceN_length hl.out) (wr.setCell ⟨w.heap.size, 6, none⟩ (.int .i64 k)) (fun j hj => (hrL.other hbb _).cell _ _ (q4 j hj)))
      have hpk' := hide (hpk.setCell (i := 6) hbox (by decide) (by decide) (.int .i64 k))
      have hlen' : Hid ((gs'.map (packV c)).length ≤ 65576) := by
        show _ ≤ _
        rw [List.length_map, hpk.len, List.length_append, List.length_take, Pk.ofBlock_length]; omega
      have hkp' := hide (hkp.setCell (a := ⟨w.heap.size, 6, none⟩) (Or.inl (Or.inl rfl)) (.int .i64 k))
      have hbox' := hide (hbox.set 6 (.int .i64 k))
      have hBw : B ≤ wr.heap.size := by have := hkp.size; omega
      have hszs : Hid ((wr.setCell ⟨w.heap.size, 6, none⟩ (.int .i64 k)).heap.size = wr.heap.size) := by show _ = _; simp [World.setCell]
      have HAT := hide hat
      clear hpk hkp hbox hat hcur q1 q2 q3 q4 hrL
      go_wp2_with first | (go_at_call 66; refine hPk.out.mono ?_; rintro _ w3 ⟨g3, rfl, hg3, hb3, hr3⟩; replace hb3 := hide hb3; replace hr3 := hide hr3) | (at_builtin; refine wpList_app _ rfl _ _ 33 rfl 36 i0 (.slice none 0 0) 24 Try.underlying33 hi hz0 hz1 hz2 rfl _ (gs'.map (packV c)) rfl ((hpk'.out.later hb3.out).own.alloc _) ⟨w3.heap.size, 0, none⟩ 1 1 [packV c g3] rfl rfl (news_at _ _ _ _ rfl) (by intro u hu; simp at hu; subst hu; rfl) (by have := hlen'.out; unfold maxLen; omega) (by have := hlen'.out; omega) ?_)
      intro v' w4 happ
      have HA := hide happ
      clear happ
      go_wp2
      go_roundw
      case rel =>
        have hstep := hpk'.out.step hb3.out hr3.out hg3 (by rw [hszs.out]; exact hBw) HA.out
        refine ⟨k + 1, k, gs' ++ [g3], by omega, by go_num, ?_, ?_, ?_, ?_⟩
        · rw [List.append_assoc, take_snoc (Pk.ofBlock_at (by have := hT'.out; omega))] at hstep
          exact hstep
        · refine ((hkp'.out.below hb3.out).alloc _).grown HA.out.grown ?_
          intro q hq
          rcases HAT.out q hq with h | h
          · exact Or.inl (Or.inr h)
          · exact Or.inr h
        · have h1 := (hbox'.out.later hb3.out).alloc (.cells #[packV c g3] 36)
          exact HA.out.other h1 (((hpk'.out.later hb3.out).own.alloc _).ne_type h1 (by decide))
        · intro q hq
          rcases HA.out.block with h | h
          · exact HAT.out q (h ▸ hq)
          · rw [h] at hq; simp at hq
            have h5 := hkp'.out.size
            have h6 := hb3.out.size
            right; omega
      case measure => refine leftOf_lt ?_ ?_ <;> simp only [intOf] <;> omega
    · have e : k = T := by omega
      subst e
      have hpk2 : Hid (Packs wr B u0 c (ps ++ Pk.ofBlock id len s m p z K blk) gs') := by
        have : (Pk.ofBlock id len s m p z K blk).take k = Pk.ofBlock id len s m p z K blk := List.take_of_length_le (by rw [Pk.ofBlock_length, hT'.out]; omega)
        rw [this] at hpk; exact hpk
      have HKP := hide hkp
      clear hpk hkp hbox hat
      go_wp2
      go_ret
      refine ⟨_, gs', rfl, hpk2.out, ?_⟩
      have h1 : Kp (fun k => v.ownBlock = some k) w w2 := (Kp.of_below hb0.out).below hb2.out
      refine ⟨HKP.out.os.trans h1.os, HKP.out.tape.trans h1.tape, HKP.out.output.trans h1.output, Nat.le_trans h1.size HKP.out.size, fun q hq hx => ?_⟩
      refine (HKP.out.block q (by omega) ?_).trans (h1.block q hq hx)
      rintro (h | h)
      · omega
      · exact hx h
end Go.Proofs.Ytmfpiodlecapiaa
