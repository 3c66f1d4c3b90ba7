/- The caller's own keeping of lists of bytes: first what is in them, then the list itself. -/
import Derived.Test.YtmfpiodlecapiaaKeepBytes
namespace Go.Proofs.Ytmfpiodlecapiaa
open Go.RowKit Go.Deep

theorem Try.infoLists : (Try.prog.info? 33).map (fun i => (i.zero, i.size, i.bytes)) = some (some (.slice none 0 0), 1, 24) := by kernel_rfl

def Wd.withLists (d : Wd) (v : Value) : Wd := { d with lists := v }
theorem OwnS.setAt {w : World} {e : TypeId} {g n cap k : Nat} {xs : List Value} (h : OwnS w e (.slice (some ⟨g, 0, none⟩) n cap) xs) (u : Value) : OwnS (w.setCell ⟨g, k, none⟩ u) e (.slice (some ⟨g, 0, none⟩) n cap) (xs.set k u) := by
  rcases h with ⟨h, _⟩ | ⟨g', cap', cur, hv, hr, h1, h2, h3, h4⟩
  · cases h
  · injection hv with e1 e2 e3
    injection e1 with e1
    injection e1 with e1
    subst e1 e3
    refine .inr ⟨g, cap, cur.set k u, by rw [List.length_set, e2], hr.set k u, by rw [List.length_set]; exact h1, h2, by rw [List.length_set]; exact h3, ?_⟩
    rw [List.length_set, List.take_set, h4]
theorem OwnS.at_ {w : World} {e : TypeId} {g n cap k : Nat} {xs : List Value} {u : Value} (h : OwnS w e (.slice (some ⟨g, 0, none⟩) n cap) xs) (hk : xs[k]? = some u) : w.cell? ⟨g, k, none⟩ = some u ∧ w.frozen? ⟨g, k, none⟩ = false := by
  rcases h with ⟨h, _⟩ | ⟨g', cap', cur, hv, hr, h1, h2, h3, h4⟩
  · cases h
  · injection hv with e1 e2 e3
    injection e1 with e1
    injection e1 with e1
    subst e1
    exact ⟨hr.cell k _ (take_at h4 hk), hr.frozen k⟩
def LEach (w : World) (ls : List Value) : Prop := ∀ (i : Nat) (sv : Value), ls[i]? = some sv → ∃ m mv, OwnS w 36 sv (List.replicate m mv) ∧ OwnS w 5 mv (digs (i / 4 * 4) 3)

theorem packs_nil (w : World) (B c : Nat) : Packs w B (.slice none 0 0) c [] [] :=
  ⟨ownS_nil _ _, rfl, by intro i g bs h; simp at h, by intro g hg; simp at hg, List.nodup_nil, by intro k hk; simp [Value.ownBlock] at hk⟩

theorem OwnS.ne_own {w : World} {e e' : TypeId} {v v' : Value} {xs ys : List Value} (h : OwnS w e v xs) (h' : OwnS w e' v' ys) (he : e ≠ e') {k : Nat} (hk : v.ownBlock = some k) : v'.ownBlock ≠ some k := by
  rcases h with ⟨rfl, _⟩ | ⟨g, cap, cur, rfl, hr, _⟩
  · simp [Value.ownBlock] at hk
  · simp [Value.ownBlock] at hk
    subst hk
    exact h'.ne_type hr he

/- What keepLists wants of the world ahead of it. -/
structure KL (w : World) (p : Nat) (d : Wd) (vn v : Value) (c : Nat) (bs ls : List Value) (ps : List (List Nat)) (gs : List Nat) : Prop where
  wb : WB w p d vn bs
  own : OwnS w 33 d.lists ls
  each : LEach w ls
  pown : OwnS w 36 v (gs.map (packV c))
  plen : gs.length = ps.length
  prow : ∀ (i g : Nat) (b : List Nat), gs[i]? = some g → ps[i]? = some b → RowL w g 5 (u8s b)
  pnd : gs.Nodup
  pc : ∀ b ∈ ps, b.length = c
  fb : ∀ (i : Nat) (sv : Value), bs[i]? = some sv → ∀ g ∈ gs, sv.ownBlock ≠ some g
  vb : ∀ k, v.ownBlock = some k → d.bytes.ownBlock ≠ some k

theorem KL.grow {w : World} {p : Nat} {d : Wd} {vn v : Value} {c : Nat} {bs ls : List Value} {ps : List (List Nat)} {gs : List Nat} (h : KL w p d vn v c bs ls ps gs) {g : Nat} (hg : g ∈ gs) : ∃ b, b ∈ ps ∧ RowL w g 5 (u8s b) := by
  obtain ⟨i, hi, rfl⟩ := List.mem_iff_getElem.1 hg
  have hi' : i < ps.length := by rw [← h.plen]; exact hi
  exact ⟨ps[i], List.getElem_mem hi', h.prow i _ _ (by simp [hi]) (by simp [hi'])⟩

structure KA (w : World) (p : Nat) (d : Wd) (vn : Value) (N : Nat) (bs : List Value) (gs : List Nat) (i : Nat) (vb' : Value) (bs' : List Value) (w' : World) : Prop where
  len : bs'.length = N + 4 * i
  wb : WB w' p (d.withBytes vb') vn bs'
  kp : Kp (fun k => k = p ∨ k ∈ gs.take i ∨ d.bytes.ownBlock = some k) w w'
  vb : ∀ q, vb'.ownBlock = some q → d.bytes.ownBlock = some q ∨ w.heap.size ≤ q
  el : ∀ (j : Nat) (sv : Value) (k : Nat), bs'[j]? = some sv → sv.ownBlock = some k → (∃ j : Nat, bs[j]? = some sv) ∨ k ∈ gs.take i ∨ w.heap.size ≤ k
theorem KA.start {w : World} {p : Nat} {d : Wd} {vn : Value} {N : Nat} {bs : List Value} {gs : List Nat} (h : WB w p d vn bs) (hN : bs.length = N) : KA w p d vn N bs gs 0 d.bytes bs w :=
  ⟨by omega, h, Kp.refl _ _, fun q hq => Or.inl hq, fun j sv k hs _ => Or.inl ⟨j, hs⟩⟩
/- One more packet is kept. -/
theorem KA.step {w w1 : World} {p : Nat} {d : Wd} {vn v : Value} {c N : Nat} {bs ls : List Value} {ps : List (List Nat)} {gs : List Nat} {i g : Nat} {vb1 : Value} {bs1 : List Value} (h : KL w p d vn v c bs ls ps gs) (ha : KA w p d vn N bs gs i vb1 bs1 w1) (hg : gs[i]? = some g) (hc : c ≤ 4096) (hN4 : N % 4 = 0) (hN2 : N + 4 * gs.length ≤ 1000000) :
    Calls Try.prog 60 #[.pointer (some ⟨p, 0, none⟩), packV c g] w1 fun e w' => e = .returned (.tuple #[]) ∧ ∃ vb2 bs2, KA w p d vn N bs gs (i + 1) vb2 bs2 w' := by
  have hil : i < gs.length := (List.getElem?_eq_some_iff.1 hg).1
  have hip : i < ps.length := by rw [← h.plen]; exact hil
  have hrow := h.prow i g _ hg (show ps[i]? = some ps[i] by simp [hip])
  have hgm : g ∈ gs := List.mem_of_getElem? hg
  have hnt : g ∉ gs.take i := by
    intro hm
    obtain ⟨j, hj, e⟩ := List.mem_iff_getElem.1 hm
    have hji : j < i := by rw [List.length_take] at hj; omega
    have hje : gs[j]? = some g := by
      rw [List.getElem_take] at e
      rw [List.getElem?_eq_getElem (by omega), e]
    have hjl : j < gs.length := by omega
    have he := (List.getElem?_inj hjl h.pnd).1 (hje.trans hg.symm)
    omega
  have hrow1 : RowL w1 g 5 (u8s ps[i]) := ha.kp.row hrow (fun hx => by
    rcases hx with rfl | hx | hx
    · exact h.wb.row.ne_of_type hrow (by decide) rfl
    · exact hnt hx
    · exact h.wb.own.ne_type hrow (by decide) hx)
  refine (keep_walk p g c (N + 4 * i) (d.withBytes vb1) vn bs1 ps[i] (h.pc _ (List.getElem_mem hip)) hc ha.len (by omega) (by omega) w1 ha.wb hrow1 (fun j sv hs hb => ?_)).mono ?_
  · rcases ha.el j sv g hs hb with ⟨j', hj'⟩ | hx | hx
    · exact h.fb j' sv hj' g hgm hb
    · exact hnt hx
    · exact absurd hrow.lt (by omega)
  · rintro e w' ⟨rfl, vb2, bs2, hl2, hw2, hk2, hv2, he2⟩
    have htk : gs.take (i + 1) = gs.take i ++ [g] := (take_snoc hg).symm
    refine ⟨rfl, vb2, bs2, ⟨by rw [hl2]; omega, hw2, (ha.kp.mono (fun k hk => ?_)).join hk2 (fun k hk => ?_), fun q hq => ?_, fun j sv k hs hb => ?_⟩⟩
    · rw [htk]
      rcases hk with h1 | h1 | h1
      · exact Or.inl h1
      · exact Or.inr (Or.inl (List.mem_append_left _ h1))
      · exact Or.inr (Or.inr h1)
    · rw [htk]
      rcases hk with h1 | h1 | h1
      · exact Or.inl (Or.inl h1)
      · exact Or.inl (Or.inr (Or.inl (List.mem_append_right _ (by rw [h1]; exact List.mem_singleton.2 rfl))))
      · rcases ha.vb k h1 with h2 | h2
        · exact Or.inl (Or.inr (Or.inr h2))
        · exact Or.inr h2
    · rcases hv2 q hq with h1 | h1
      · exact ha.vb q h1
      · exact Or.inr (Nat.le_trans ha.kp.size h1)
    · rw [htk]
      rcases he2 j sv k hs hb with ⟨j', hj'⟩ | h1 | h1
      · rcases ha.el j' sv k hj' hb with h2 | h2 | h2
        · exact Or.inl h2
        · exact Or.inr (Or.inl (List.mem_append_left _ h2))
        · exact Or.inr (Or.inr h2)
      · exact Or.inr (Or.inl (List.mem_append_right _ (by rw [h1]; exact List.mem_singleton.2 rfl)))
      · exact Or.inr (Or.inr (Nat.le_trans ha.kp.size h1))

/- What keepLists leaves. -/
structure KD (w : World) (p : Nat) (d : Wd) (vn v : Value) (N M : Nat) (bs ls : List Value) (gs : List Nat) (vb' vl' : Value) (bs' ls' : List Value) (w' : World) : Prop where
  lenb : bs'.length = N + 4 * gs.length
  lenl : ls'.length = M + 4
  wb : WB w' p ((d.withBytes vb').withLists vl') vn bs'
  own : OwnS w' 33 vl' ls'
  each : LEach w' ls'
  kp : Kp (fun k => k = p ∨ v.ownBlock = some k ∨ k ∈ gs ∨ d.bytes.ownBlock = some k ∨ d.lists.ownBlock = some k) w w'
  vb : ∀ q, vb'.ownBlock = some q → d.bytes.ownBlock = some q ∨ w.heap.size ≤ q
  vl : ∀ q, vl'.ownBlock = some q → d.lists.ownBlock = some q ∨ w.heap.size ≤ q
  el : ∀ (i : Nat) (sv : Value) (k : Nat), ls'[i]? = some sv → sv.ownBlock = some k → ((∃ j : Nat, ls[j]? = some sv) ∨ v.ownBlock = some k ∨ w.heap.size ≤ k) ∧ vb'.ownBlock ≠ some k

set_option maxRecDepth 20000 in
set_option maxHeartbeats 2000000 in
theorem keepLists_walk (p T c N M : Nat) (d : Wd) (vn v : Value) (bs ls : List Value) (ps : List (List Nat)) (gs : List Nat) (hT : Hid (gs.length = T)) (hc : c ≤ 4096) (hN : Hid (bs.length = N)) (hN4 : N % 4 = 0) (hN2 : N + 4 * T ≤ 1000000) (hM : Hid (ls.length = M)) (hM4 : M % 4 = 0) (hM2 : M ≤ 1000000) (w : World)
    (hw : Hid (KL w p d vn v c bs ls ps gs)) (hlb : Hid (∀ (i : Nat) (sv : Value) (k : Nat), ls[i]? = some sv → sv.ownBlock = some k → d.bytes.ownBlock ≠ some k ∧ v.ownBlock ≠ some k)) (hlm : Hid (∀ (i : Nat) (sv : Value), ls[i]? = some sv → ∃ m mv, OwnS w 36 sv (List.replicate m mv) ∧ OwnS w 5 mv (digs (i / 4 * 4) 3) ∧ ∀ k, mv.ownBlock = some k → k ∉ gs)) :
    Calls Try.prog 43 #[.pointer (some ⟨p, 0, none⟩), v] w fun e w' =>
      e = .returned (.tuple #[]) ∧ ∃ vb' vl' bs' ls', KD w p d vn v N M bs ls gs vb' vl' bs' ls' w' := by
  obtain ⟨i0, hi, hz0, hz1, hz2⟩ := info_parts Try.infoBytes
  obtain ⟨j0, hjn, hy0, hy1, hy2⟩ := info_parts Try.infoLists
  obtain ⟨al, capl, hsh⟩ := hw.out.pown.shape
  rw [List.length_map, hT.out] at hsh
  subst hsh
  have hT2 : T ≤ 250000 := by omega
  go_enter Try.func43, Try.ntmps43
  go_wp2_with fail
  go_loopw [4] (fun x wr => ∃ (i : Nat) (vb1 : Value) (bs1 : List Value), i ≤ T ∧ x = .int .i64 i ∧ KA w p d vn N bs gs i vb1 bs1 wr) (fun x _ => leftOf T (intOf x).toNat)
  case atStart => exact ⟨0, d.bytes, bs, by omega, rfl, KA.start hw.out.wb hN.out⟩
  case round =>
    obtain ⟨i, vb1, bs1, hiT, rfl, hka⟩ := hrel
    by_cases hii : i < T
    · have i1 : (i : Int) < (T : Int) := by omega
      have i0' : (0 : Int) ≤ (i : Int) := by omega
      have hig : i < gs.length := by rw [hT.out]; exact hii
      have hgi : gs[i]? = some gs[i] := by simp [hig]
      have KS := hide (hka.step hw.out hgi hc hN4 (by rw [hT.out]; omega))
      have hown : OwnS wr 36 (.slice al T capl) (gs.map (packV c)) := hka.kp.own hw.out.pown (fun k hk hx => by
        rcases hx with rfl | hx | hx
        · exact hw.out.pown.ne_type hw.out.wb.row (by decide) hk
        · obtain ⟨b, _, hr⟩ := hw.out.grow (List.mem_of_mem_take hx)
          exact hw.out.pown.ne_type hr (by decide) hk
        · exact hw.out.vb k hk hx)
      obtain ⟨gl, capl', cur, e1, r1, l1, l2, l3, l4⟩ := hown.open' (by rw [List.length_map]; omega)
      injection e1 with e1 e2 e3; clear e2
      subst e1; subst e3
      have hcell := r1.cell i _ (take_at l4 (show (gs.map (packV c))[i]? = some (packV c gs[i]) by simp [hig]))
      obtain ⟨g, hge⟩ : ∃ g, g = gs[i] := ⟨_, rfl⟩
      rw [← hge] at hcell KS
      have KS2 : Hid (Calls Try.prog 60 #[.pointer (some ⟨p, 0, none⟩), .slice (some ⟨g, 0, none⟩) c c] wr fun e w' => e = .returned (.tuple #[]) ∧ ∃ vb2 bs2, KA w p d vn N bs gs (i + 1) vb2 bs2 w') := KS.out
      unfold packV at hcell
      clear hown r1 l1 l2 l3 l4 hka hge hgi hig KS
      go_wp2_with (go_at_call 60; refine KS2.out.mono ?_; rintro _ w1 ⟨rfl, vb2, bs2, hka2⟩; replace hka2 := hide hka2)
      go_roundw
      case rel => exact ⟨i + 1, vb2, bs2, by omega, by go_num, hka2.out⟩
      case measure => refine leftOf_lt ?_ ?_ <;> simp only [intOf] <;> omega
    · have i1 : ¬ (i : Int) < (T : Int) := by omega
      have ei : i = T := by omega
      subst ei
      have htk : Hid (gs.take i = gs) := List.take_of_length_le (by rw [hT.out]; exact Nat.le_refl _)
      have hown : OwnS wr 36 (.slice al i capl) (gs.map (packV c)) := hka.kp.own hw.out.pown (fun k hk hx => by
        rcases hx with rfl | hx | hx
        · exact hw.out.pown.ne_type hw.out.wb.row (by decide) hk
        · obtain ⟨b, _, hr⟩ := hw.out.grow (List.mem_of_mem_take hx)
          exact hw.out.pown.ne_type hr (by decide) hk
        · exact hw.out.vb k hk hx)
      have hol : OwnS wr 33 d.lists ls := hka.kp.own hw.out.own (fun k hk hx => by
        rcases hx with rfl | hx | hx
        · exact hw.out.own.ne_type hw.out.wb.row (by decide) hk
        · obtain ⟨b, _, hr⟩ := hw.out.grow (List.mem_of_mem_take hx)
          exact hw.out.own.ne_type hr (by decide) hk
        · exact hw.out.own.ne_own hw.out.wb.own (by decide) hk hx)
      have hle : ∀ (i : Nat) (sv : Value), ls[i]? = some sv → ∃ m mv, OwnS wr 36 sv (List.replicate m mv) ∧ OwnS wr 5 mv (digs (i / 4 * 4) 3) := by
        intro j sv hs
        obtain ⟨m, mv, h1, h2, h3⟩ := hlm.out j sv hs
        refine ⟨m, mv, hka.kp.own h1 (fun k hk hx => ?_), hka.kp.own h2 (fun k hk hx => ?_)⟩
        · rcases hx with rfl | hx | hx
          · exact h1.ne_type hw.out.wb.row (by decide) hk
          · obtain ⟨b, _, hr⟩ := hw.out.grow (List.mem_of_mem_take hx)
            exact h1.ne_type hr (by decide) hk
          · exact (hlb.out j sv k hs hk).1 hx
        · rcases hx with rfl | hx | hx
          · exact h2.ne_type hw.out.wb.row (by decide) hk
          · exact h3 k hk (List.mem_of_mem_take hx)
          · exact h2.ne_own hw.out.wb.own (by decide) hk hx
      obtain ⟨aL, capL, hsL⟩ := hol.shape
      rw [hM.out] at hsL
      have c2 := hka.wb.row.cell 2 _ rfl
      rw [show (d.withBytes vb1).lists = d.lists from rfl, hsL] at c2
      have HKA := hide hka; have HOW := hide hown; have HOL := hide hol; have HLE := hide hle
      have HMV := hide ((rowL_alloc wr (digs M 3) 5).own (by rw [digs_length]; unfold maxLen; omega))
      have hM62 : M < 4611686018427387904 := by omega
      clear hka hown hol hle
      go_wp2_with (go_at_call 37; refine (digit_walkI _ _ hM62 (by decide) (by decide) _).mono ?_; rintro _ wq ⟨rfl, hq⟩; have hq2 := hq.symm; clear hq; subst hq2)
      have HBz := hide ((Below.refl wr.heap.size wr).alloc (Nat.le_refl _) (.cells #[.int .u8 (dig M 0 : Nat), .int .u8 (dig M 1 : Nat), .int .u8 (dig M 2 : Nat)] 5))
      have HMz : Hid (OwnS (wr.alloc (.cells #[.int .u8 (dig M 0 : Nat), .int .u8 (dig M 1 : Nat), .int .u8 (dig M 2 : Nat)] 5)) 5 (.slice (some ⟨wr.heap.size, 0, none⟩) 3 3) (digs M 3)) := HMV.out
      obtain ⟨wz, hwz⟩ : ∃ wz, wz = wr.alloc (.cells #[.int .u8 (dig M 0 : Nat), .int .u8 (dig M 1 : Nat), .int .u8 (dig M 2 : Nat)] 5) := ⟨_, rfl⟩
      obtain ⟨gm, hgm⟩ : ∃ gm, gm = wr.heap.size := ⟨_, rfl⟩
      have HSZ : Hid (wr.heap.size ≤ wz.heap.size) := by show _ ≤ _; rw [hwz]; simp
      rw [← hwz] at HBz HMz ⊢
      rw [← hgm] at HMz ⊢
      have HOWz := hide (HOW.out.later HBz.out)
      have HOLz := hide (HOL.out.later HBz.out)
      have HLEz : Hid (∀ (i : Nat) (sv : Value), ls[i]? = some sv → ∃ m mv, OwnS wz 36 sv (List.replicate m mv) ∧ OwnS wz 5 mv (digs (i / 4 * 4) 3)) := by
        intro j sv hs
        obtain ⟨m, mv, h1, h2⟩ := HLE.out j sv hs
        exact ⟨m, mv, h1.later HBz.out, h2.later HBz.out⟩
      have HRz := hide (HKA.out.wb.row.later HBz.out)
      have hml : Hid ((List.replicate i (Value.slice (some ⟨gm, 0, none⟩) 3 3)).length = (gs.map (packV c)).length) := by show _ = _; rw [List.length_replicate, List.length_map, hT.out]
      clear HMV hwz hgm c2
      go_loopw [7] (fun x wq => ∃ k : Nat, k ≤ i ∧ x = .int .i64 k ∧ OwnS wq 36 (.slice al i capl) (mix (List.replicate i (.slice (some ⟨gm, 0, none⟩) 3 3)) (gs.map (packV c)) k) ∧ Kp (fun q => (Value.slice al i capl).ownBlock = some q) wz wq)
        (fun x _ => leftOf i (intOf x).toNat)
      case atStart => exact ⟨0, by omega, rfl, by rw [mix_zero]; exact HOWz.out, Kp.refl _ _⟩
      case round =>
        obtain ⟨k, hk, rfl, hmx, hkp⟩ := hrel
        by_cases hki : k < i
        · have k1 : (k : Int) < (i : Int) := by omega
          have k0 : (0 : Int) ≤ (k : Int) := by omega
          have hkg : k < gs.length := by rw [hT.out]; exact hki
          have hm := mix_at (List.replicate i (Value.slice (some ⟨gm, 0, none⟩) 3 3)) (gs.map (packV c)) k hml.out (by rw [List.length_map]; exact hkg)
          rw [show (gs.map (packV c))[k]? = some (packV c gs[k]) by simp [hkg]] at hm
          obtain ⟨gl, capl', cur, e1, r1, l1, l2, l3, l4⟩ := hmx.open' (by rw [show (mix (List.replicate i (Value.slice (some ⟨gm, 0, none⟩) 3 3)) (gs.map (packV c)) k).length = gs.length by simp [mix]; omega]; omega)
          injection e1 with e1 e2 e3; clear e2
          subst e1; subst e3
          obtain ⟨hcell, hfr⟩ := hmx.at_ hm
          unfold packV at hcell
          have hset := hide (hmx.setAt (k := k) (.slice (some ⟨gm, 0, none⟩) 3 3))
          rw [mix_set _ _ _ _ hml.out (by simp [hki])] at hset
          have HKP := hide (hkp.setCell (a := ⟨gl, k, none⟩) (Or.inl rfl) (.slice (some ⟨gm, 0, none⟩) 3 3))
          clear hmx hkp r1 l1 l2 l3 l4 hm
          go_wp2_with fail
          go_roundw
          case rel => exact ⟨k + 1, by omega, by go_num, hset.out, HKP.out⟩
          case measure => refine leftOf_lt ?_ ?_ <;> simp only [intOf] <;> omega
        · have k1 : ¬ (k : Int) < (i : Int) := by omega
          have ek : k = i := by omega
          have hmx2 : OwnS wr 36 (.slice al i capl) (List.replicate i (.slice (some ⟨gm, 0, none⟩) 3 3)) := by
            have h := mix_all (List.replicate i (Value.slice (some ⟨gm, 0, none⟩) 3 3)) (gs.map (packV c)) hml.out
            rw [List.length_map, hT.out] at h
            rw [ek, h] at hmx; exact hmx
          have hmv : OwnS wr 5 (.slice (some ⟨gm, 0, none⟩) 3 3) (digs M 3) := hkp.own HMz.out (fun q hq hx => HMz.out.ne_own HOWz.out (by decide) hq hx)
          have hrw : RowL wr p 38 ((d.withBytes vb1).row vn) := hkp.row HRz.out (fun hx => HOWz.out.ne_type HRz.out (by decide) hx)
          have hol : OwnS wr 33 d.lists ls := hkp.own HOLz.out (fun q hq hx => HOLz.out.ne_own HOWz.out (by decide) hq hx)
          have hle : ∀ (j : Nat) (sv : Value), ls[j]? = some sv → (∃ m mv, OwnS wr 36 sv (List.replicate m mv) ∧ OwnS wr 5 mv (digs (j / 4 * 4) 3) ∧ (∀ g, sv.ownBlock = some g → (Value.slice al i capl).ownBlock = some g → m ≤ i)) ∧ (∀ k, sv.ownBlock = some k → (∃ j : Nat, ls[j]? = some sv) ∨ (Value.slice al i capl).ownBlock = some k ∨ wz.heap.size ≤ k) := by
            intro j sv hs
            obtain ⟨m, mv, h1, h2⟩ := HLEz.out j sv hs
            refine ⟨⟨m, mv, hkp.own h1 (fun q hq hx => (hlb.out j sv q hs hq).2 hx), hkp.own h2 (fun q hq hx => h2.ne_own HOWz.out (by decide) hq hx), fun g h3 h4 => absurd h4 (hlb.out j sv g hs h3).2⟩, fun k _ => Or.inl ⟨j, hs⟩⟩
          have K0 := hide (hkp.mono (Y := fun q => q = p ∨ (Value.slice al i capl).ownBlock = some q ∨ d.lists.ownBlock = some q) (fun q hq => Or.inr (Or.inl hq)))
          have O0 := hide hmx2; have MV0 := hide hmv; have R0 := hide hrw; have N0 := hide hol; have E0 := hide hle
          clear hmx hmx2 hmv hrw hol hle hkp
          go_wp2_with fail
          go_loopw [1, 8] (fun v x wq => ∃ (j c3 : Nat) (vj : Value) (lj : List Value), j ≤ 4 ∧ Hid (c3 = i + j) ∧ x = .int .i64 j ∧ OwnS wq 36 v (List.replicate c3 (.slice (some ⟨gm, 0, none⟩) 3 3)) ∧ OwnS wq 5 (.slice (some ⟨gm, 0, none⟩) 3 3) (digs M 3) ∧ RowL wq p 38 (((d.withBytes vb1).withLists vj).row vn) ∧ OwnS wq 33 vj lj ∧ Hid (lj.length = M + j) ∧
              (∀ (q : Nat) (sv : Value), lj[q]? = some sv → (∃ m mv, OwnS wq 36 sv (List.replicate m mv) ∧ OwnS wq 5 mv (digs (q / 4 * 4) 3) ∧ (∀ g, sv.ownBlock = some g → v.ownBlock = some g → m ≤ c3)) ∧ (∀ k, sv.ownBlock = some k → (∃ j : Nat, ls[j]? = some sv) ∨ (Value.slice al i capl).ownBlock = some k ∨ wz.heap.size ≤ k)) ∧
              Kp (fun q => q = p ∨ (Value.slice al i capl).ownBlock = some q ∨ d.lists.ownBlock = some q) wz wq ∧ (∀ q, v.ownBlock = some q → (Value.slice al i capl).ownBlock = some q ∨ wz.heap.size ≤ q) ∧ (∀ q, vj.ownBlock = some q → d.lists.ownBlock = some q ∨ wz.heap.size ≤ q))
            (fun _ x _ => leftOf 4 (intOf x).toNat)
          case atStart => exact ⟨0, i, d.lists, ls, by omega, rfl, rfl, O0.out, MV0.out, R0.out, N0.out, hM, E0.out, K0.out, fun q hq => Or.inl hq, fun q hq => Or.inl hq⟩
          case round =>
            obtain ⟨j, c3, vj, lj, hj4, hcc, rfl, hv, hmv, hrow, hnj, hnl, heach, hkp, hvb, hvjb⟩ := hrel
            by_cases hj : j < 4
            · obtain ⟨aj, cj, hshj⟩ := hnj.shape
              rw [hnl.out] at hshj
              subst hshj
              obtain ⟨a1, k1', hsh1⟩ := hv.shape
              rw [List.length_replicate] at hsh1
              subst hsh1
              have hc2 : c3 ≤ 250004 := by have := hcc.out; omega
              have d3 := hrow.cell 2 _ rfl
              have f3 := hrow.frozen 2
              have HV := hide hv; have HMJ := hide hmv; have HR := hide hrow; have HNJ := hide hnj; have HE := hide heach; have HK := hide hkp; have HVB := hide hvb; have HVJ := hide hvjb
              clear hv hrow hnj heach hkp hvb hvjb hmv
              go_wp2_with (at_builtin; (refine wpList_app _ rfl (.tmp 52) (.tmp 54) 34 rfl 33 j0 (.slice none 0 0) 24 Try.underlying34 hjn hy0 hy1 hy2 rfl _ lj rfl (HNJ.out.alloc _) ⟨wr.heap.size, 0, none⟩ 1 1 [.slice a1 c3 k1'] rfl rfl (news_at _ _ _ _ rfl) (by intro u hu; simp at hu; subst hu; rfl) (by rw [hnl.out]; unfold maxLen; omega) (by rw [hnl.out]; omega) ?_))
              intro vj' w1 happ
              obtain ⟨aj', cj', hs2⟩ := happ.own.shape
              rw [List.length_append, hnl.out] at hs2
              subst hs2
              have hownA := HNJ.out.alloc (.cells #[.slice a1 c3 k1'] 33)
              have hrow1 := happ.other (HR.out.alloc _) (hownA.ne_type (HR.out.alloc _) (by decide))
              have d3' := hrow1.cell 2 _ rfl
              have f3' := hrow1.frozen 2
              have HA := hide happ; have HR1 := hide hrow1; have HOA := hide hownA
              clear happ hrow1 hownA d3 f3
              go_wp2_with (at_builtin; (refine wpList_app _ rfl (.tmp 58) (.tmp 60) 33 rfl 36 i0 (.slice none 0 0) 24 Try.underlying33 hi hz0 hz1 hz2 rfl _ (List.replicate c3 (.slice (some ⟨gm, 0, none⟩) 3 3)) rfl (((HA.out.keepT HOA.out (HV.out.alloc _) (by decide)).setCell (i := 2) HR1.out (by decide) _).alloc _) ⟨_, 0, none⟩ 1 1 [.slice (some ⟨gm, 0, none⟩) 3 3] rfl rfl (news_at _ _ _ _ (by simp [World.setCell])) (by intro u hu; simp at hu; subst hu; rfl) (by rw [List.length_replicate]; unfold maxLen; omega) (by rw [List.length_replicate]; omega) ?_))
              intro v' w2 happ2
              have hownB := ((HA.out.keepT HOA.out (HV.out.alloc (.cells #[.slice a1 c3 k1'] 33)) (by decide)).setCell (i := 2) HR1.out (by decide) (.slice aj' (M + j + 1) cj')).alloc (.cells #[.slice (some ⟨gm, 0, none⟩) 3 3] 36)
              have HA2 := hide happ2; have HOB := hide hownB
              clear happ2 hownB
              go_wp2
              go_roundw
              case rel =>
                have hsize1 : wr.heap.size ≤ w1.heap.size := Nat.le_trans (by simp) HA.out.size
                have carryM : ∀ (mv : Value) (q : Nat), OwnS wr 5 mv (digs q 3) → OwnS w2 5 mv (digs q 3) := by
                  intro mv q ho
                  exact HA2.out.keepT HOB.out (((HA.out.keepT HOA.out (ho.alloc (.cells #[.slice a1 c3 k1'] 33)) (by decide)).setCell (i := 2) HR1.out (by decide) (.slice aj' (M + j + 1) cj')).alloc (.cells #[.slice (some ⟨gm, 0, none⟩) 3 3] 36)) (by decide)
                refine ⟨j + 1, c3 + 1, .slice aj' (M + j + 1) cj', lj ++ [.slice a1 c3 k1'], by omega, ?_, by go_num, ?_, carryM _ _ HMJ.out, ?_, ?_, ?_, ?_, ?_, ?_, ?_⟩
                · show c3 + 1 = i + (j + 1)
                  rw [hcc.out]; rfl
                · have h := HA2.out.own
                  rw [show List.replicate (c3 + 1) (Value.slice (some ⟨gm, 0, none⟩) 3 3) = List.replicate c3 (.slice (some ⟨gm, 0, none⟩) 3 3) ++ [.slice (some ⟨gm, 0, none⟩) 3 3] from List.replicate_succ']
                  exact h
                · have h : RowL _ p 38 _ := ((HR1.out.set 2 (.slice aj' (M + j + 1) cj')).alloc (.cells #[.slice (some ⟨gm, 0, none⟩) 3 3] 36))
                  exact HA2.out.other h (HOB.out.ne_type h (by decide))
                · exact HA2.out.keepT HOB.out ((HA.out.own.setCell (i := 2) HR1.out (by decide) (.slice aj' (M + j + 1) cj')).alloc (.cells #[.slice (some ⟨gm, 0, none⟩) 3 3] 36)) (by decide)
                · show _ = _
                  rw [List.length_append, hnl.out]; rfl
                · have carry : ∀ (sv : Value) (m : Nat) (mv : Value), OwnS wr 36 sv (List.replicate m mv) → (∀ g, sv.ownBlock = some g → (Value.slice a1 c3 k1').ownBlock = some g → m ≤ c3) → OwnS w2 36 sv (List.replicate m mv) ∧ (∀ g, sv.ownBlock = some g → v'.ownBlock = some g → m ≤ c3 + 1) := by
                    intro sv m mv ho hc
                    have hC := ((HA.out.keepT HOA.out (ho.alloc (.cells #[.slice a1 c3 k1'] 33)) (by decide)).setCell (i := 2) HR1.out (by decide) (.slice aj' (M + j + 1) cj')).alloc (.cells #[.slice (some ⟨gm, 0, none⟩) 3 3] 36)
                    refine ⟨HA2.out.keeps hC (fun g h1 h2 => by rw [List.length_replicate, List.length_replicate]; exact hc g h1 h2), fun g h1 h2 => ?_⟩
                    rcases HA2.out.block with hb | hb
                    · have := hc g h1 (hb ▸ h2); omega
                    · rw [hb] at h2
                      have := hC.lt h1
                      simp only [Option.some.injEq] at h2
                      omega
                  intro q sv hs
                  rw [List.getElem?_append] at hs
                  split at hs
                  · obtain ⟨⟨m, mv, h1, h2, h3⟩, h4⟩ := HE.out q sv hs
                    obtain ⟨h5, h6⟩ := carry sv m mv h1 h3
                    exact ⟨⟨m, mv, h5, carryM _ _ h2, h6⟩, h4⟩
                  · rename_i hni
                    have ei : q = lj.length := by
                      by_cases hi' : q - lj.length = 0
                      · omega
                      · rw [List.getElem?_eq_none (by simp; omega)] at hs; cases hs
                    subst ei
                    simp at hs
                    subst hs
                    have ev : lj.length / 4 * 4 = M := by
                      rw [hnl.out]
                      omega
                    rw [ev]
                    obtain ⟨h5, h6⟩ := carry _ _ _ HV.out (fun _ _ _ => Nat.le_refl _)
                    exact ⟨⟨c3, _, h5, carryM _ _ HMJ.out, h6⟩, fun k hk => Or.inr (HVB.out k hk)⟩
                · refine (((HK.out.alloc _).grown HA.out.grown (fun k hk => ?_)).setCell (Or.inl (Or.inl rfl)) _ |>.alloc _).grown HA2.out.grown (fun k hk => ?_)
                  · rcases HVJ.out k hk with h | h
                    · exact Or.inl (Or.inr (Or.inr h))
                    · exact Or.inr h
                  · rcases HVB.out k hk with h | h
                    · exact Or.inl (Or.inr (Or.inl h))
                    · exact Or.inr h
                · intro q hq
                  rcases HA2.out.block with hb | hb
                  · exact HVB.out q (hb ▸ hq)
                  · rw [hb] at hq
                    simp only [Option.some.injEq] at hq
                    have := HK.out.size
                    right
                    rw [← hq]
                    refine Nat.le_trans this (Nat.le_trans hsize1 ?_)
                    simp
                · intro q hq
                  rcases HA.out.block with hb | hb
                  · exact HVJ.out q (hb ▸ hq)
                  · replace hq := hb.symm.trans hq
                    simp only [Option.some.injEq] at hq
                    have := HK.out.size
                    right
                    rw [← hq]
                    refine Nat.le_trans this ?_
                    simp
              case measure => refine leftOf_lt ?_ ?_ <;> simp only [intOf] <;> omega
            · have hj' : j = 4 := by omega
              subst hj'
              have HR := hide hrow; have HNJ := hide hnj; have HE := hide heach; have HK := hide hkp; have HVJ := hide hvjb
              clear hv hrow hnj heach hkp hvb hvjb hmv
              go_wp2_with fail
              go_end0
              have hszw : w.heap.size ≤ wz.heap.size := Nat.le_trans HKA.out.kp.size HSZ.out
              have hlt : ∀ k, (Value.slice al i capl).ownBlock = some k → k < w.heap.size := fun k hk => hw.out.pown.lt hk
              have hvbl : ∀ k, vb1.ownBlock = some k → (Value.slice al i capl).ownBlock ≠ some k := fun k hk hx => by
                rcases HKA.out.vb k hk with h1 | h1
                · exact hw.out.vb k hx h1
                · have := hlt k hx; omega
              have hvb2 : OwnS wz 36 vb1 bs1 := HKA.out.wb.own.later HBz.out
              refine ⟨rfl, vb1, vj, bs1, lj, ⟨by rw [HKA.out.len, hT.out], hnl.out, ⟨HR.out, HK.out.own hvb2 (fun k hk hx => ?_), fun q sv hs => ?_⟩, HNJ.out, fun q sv hs => ?_, ?_, HKA.out.vb, fun q hq => ?_, fun q sv k hs hk => ⟨?_, fun hx => ?_⟩⟩⟩
              · rcases hx with rfl | hx | hx
                · exact hvb2.ne_type HRz.out (by decide) hk
                · exact hvbl k hk hx
                · exact hvb2.ne_own HOLz.out (by decide) hk hx
              · obtain ⟨m, h1, h2⟩ := HKA.out.wb.each q sv hs
                have h3 : OwnS wz 5 sv _ := h2.later HBz.out
                refine ⟨m, h1, HK.out.own h3 (fun k hk hx => ?_)⟩
                rcases hx with rfl | hx | hx
                · exact h3.ne_type HRz.out (by decide) hk
                · exact h3.ne_own HOWz.out (by decide) hk hx
                · exact h3.ne_own HOLz.out (by decide) hk hx
              · obtain ⟨⟨m, mv, h1, h2, _⟩, _⟩ := HE.out q sv hs
                exact ⟨m, mv, h1, h2⟩
              · refine ((HKA.out.kp.mono (fun k hk => ?_)).below HBz.out).join HK.out (fun k hk => ?_)
                · rw [htk.out] at hk
                  rcases hk with h1 | h1 | h1
                  · exact Or.inl h1
                  · exact Or.inr (Or.inr (Or.inl h1))
                  · exact Or.inr (Or.inr (Or.inr (Or.inl h1)))
                · rcases hk with h1 | h1 | h1
                  · exact Or.inl (Or.inl h1)
                  · exact Or.inl (Or.inr (Or.inl h1))
                  · exact Or.inl (Or.inr (Or.inr (Or.inr (Or.inr h1))))
              · rcases HVJ.out q hq with h1 | h1
                · exact Or.inl h1
                · exact Or.inr (Nat.le_trans hszw h1)
              · rcases (HE.out q sv hs).2 k hk with h1 | h1 | h1
                · exact Or.inl h1
                · exact Or.inr (Or.inl h1)
                · exact Or.inr (Or.inr (Nat.le_trans hszw h1))
              · rcases (HE.out q sv hs).2 k hk with ⟨j', h1⟩ | h1 | h1
                · rcases HKA.out.vb k hx with h2 | h2
                  · exact (hlb.out j' sv k h1 hk).1 h2
                  · obtain ⟨m, mv, h3, _, _⟩ := hlm.out j' sv h1
                    have := h3.lt hk
                    omega
                · exact hvbl k hx h1
                · have := hvb2.lt hx
                  omega
end Go.Proofs.Ytmfpiodlecapiaa
