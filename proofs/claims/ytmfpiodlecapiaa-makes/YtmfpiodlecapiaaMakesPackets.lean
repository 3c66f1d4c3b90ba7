/- The caller's Packets: the program answers as the document, and what came out is the caller's own. -/
import Derived.Test.YtmfpiodlecapiaaMakesState
import Derived.Test.YtmfpiodlecapiaaRefPacketsC
import Derived.Deep.RegionHeld3
namespace Go.Proofs.Ytmfpiodlecapiaa
open Go.RowKit Go.Deep

def opV (id s m q : Int) (S : ByteArray) : Array Value := #[.int .i64 0, .int .i64 id, .string ⟨#[]⟩, .string S, .int .i64 s, .int .i64 m, .int .i64 q, .slice none 0 0, .bool false]
/- What a step says, in its box. -/
def So (W : World) (b : Nat) (id s m q : Int) (S : ByteArray) (w' : World) : Prop := w'.cell? ⟨b, 1, none⟩ = some (.int .i64 id) ∧ w'.cell? ⟨b, 3, none⟩ = some (.string S) ∧ w'.cell? ⟨b, 4, none⟩ = some (.int .i64 s) ∧ w'.cell? ⟨b, 5, none⟩ = some (.int .i64 m) ∧ w'.cell? ⟨b, 6, none⟩ = some (.int .i64 q) ∧ Below W.heap.size W w'
theorem So.step {W w' w'' : World} {b : Nat} {id s m q : Int} {S : ByteArray} (h : So W b id s m q S w') (hb : Below w'.heap.size w' w'') : So W b id s m q S w'' :=
  ⟨cell_later hb h.1, cell_later hb h.2.1, cell_later hb h.2.2.1, cell_later hb h.2.2.2.1, cell_later hb h.2.2.2.2.1, h.2.2.2.2.2.trans (hb.mono h.2.2.2.2.2.size)⟩
theorem objAt_lent {w : World} {g n : Nat} {S : ByteArray} {L : List Value} (hn : S.size = n) (hr : RowL w g 5 (u8s (bytesOf S) ++ L)) : ObjAt w (some ⟨g, 0, none⟩) n (bytesOf S) := by
  refine ⟨by rw [bytesOf_length, hn], bytesOf_lt S, fun _ => ⟨g, 0, rfl, fun j hj => ?_⟩⟩
  rw [Nat.zero_add]
  exact hr.cell j _ (by rw [List.getElem?_append_left (by rw [u8s_length, bytesOf_length, hn]; exact hj), u8s_at (by rw [bytesOf_length, hn]; exact hj)])

structure PkPost (w : World) (p T N M Q : Nat) (d : Wd) (d' : Wd) (bs' ls' ts' : List Value) (w' : World) : Prop where
  st : St w' p d' bs' ls' ts'
  lb : bs'.length = N + 4 * T
  ll : ls'.length = M + 4
  lt : ts'.length = Q + 1
  kp : Kp (fun k => k = p ∨ d.bytes.ownBlock = some k ∨ d.lists.ownBlock = some k ∨ d.turned.ownBlock = some k) w w'
  nb : ∀ k, d'.bytes.ownBlock = some k → d.bytes.ownBlock = some k ∨ w.heap.size ≤ k
  nl : ∀ k, d'.lists.ownBlock = some k → d.lists.ownBlock = some k ∨ w.heap.size ≤ k
  nt : ∀ k, d'.turned.ownBlock = some k → d.turned.ownBlock = some k ∨ w.heap.size ≤ k

set_option maxRecDepth 20000 in
set_option maxHeartbeats 2000000 in
theorem packets_good (p n c T N M Q : Nat) (id s m q : Int) (S : ByteArray) (ps : List (List Nat)) (d : Wd) (bs ls ts : List Value) (hn : S.size = n) (hn2 : n ≤ 140737488355328) (hT : Hid (ps.length = T)) (hT2 : T ≤ 7200) (hpc : Hid (∀ b ∈ ps, b.length = c)) (hc : c ≤ 4096)
    (hN : Hid (bs.length = N)) (hN4 : N % 4 = 0) (hN2 : N ≤ 500000) (hM : Hid (ls.length = M)) (hM4 : M % 4 = 0) (hM2 : M ≤ 1000) (hQ : Hid (ts.length = Q)) (hQ2 : Q ≤ 1000) (w : World) (hst : Hid (St w p d bs ls ts))
    (PK : Hid (∀ (g : Nat) (w : World), ObjAt w (some ⟨g, 0, none⟩) n (bytesOf S) → Calls Try.prog 22 #[.int .i64 id, .slice (some ⟨g, 0, none⟩) n (n + 2), .agg #[.int .i64 s, .int .i64 m, .int .i64 q]] w fun e w' => ∃ v gs, e = .returned (.tuple #[v, .int .i64 0]) ∧ Packs w' w.heap.size v c ps gs ∧ Below w.heap.size w w'))
    (RF : Hid (∀ (w : World), Calls Try.prog 40 #[.int .i64 id, .string S, .agg #[.int .i64 s, .int .i64 m, .int .i64 q]] w fun e w' => ∃ vw, e = .returned (.tuple #[vw, .bool true]) ∧ OwnS w' 9 vw (strs ps) ∧ Below w.heap.size w w')) :
    Calls Try.prog 16 #[.pointer (some ⟨p, 0, none⟩), .agg (opV id s m q S)] w fun e w' => e = .returned (.bool true) ∧ ∃ d' bs' ls' ts', PkPost w p T N M Q d d' bs' ls' ts' w' := by
  have HR0 := hide (rowL_alloc' w (opV id s m q S) 44)
  have HB0 := hide ((Below.refl w.heap.size w).alloc (Nat.le_refl _) (.cells (opV id s m q S) 44))
  have e1 := HR0.out.cell 1 _ rfl
  have e3 := HR0.out.cell 3 _ rfl
  have LW := hide (fun w => lent_walk S n hn hn2 w)
  obtain ⟨t, ht⟩ : ∃ t, t = n + 2 := ⟨_, rfl⟩
  rw [← ht] at LW PK
  have HT := hide ht
  have nt : (n : Int) ≤ (t : Int) := by omega
  have n0 : (0 : Int) ≤ (n : Int) := by omega
  clear ht
  unfold opV at *
  go_enter Try.func16, Try.ntmps16
  go_wp2_with (go_at_call 39; refine (LW.out _).mono ?_; rintro _ w1 ⟨rfl, hr1, hb1⟩; have HR1 := hide (HR0.out.later hb1); have HG1 := hide hr1; have HB1 := hide hb1; clear hr1 hb1)
  have esz : (w.alloc (.cells #[.int .i64 0, .int .i64 id, .string ⟨#[]⟩, .string S, .int .i64 s, .int .i64 m, .int .i64 q, .slice none 0 0, .bool false] 44)).heap.size = w.heap.size + 1 := by simp
  have HBw := hide (HB0.out.trans (HB1.out.mono (by rw [esz]; omega)))
  have HS0 : Hid (So w1 w.heap.size id s m q S w1.drew) := ⟨HR1.out.cell 1 _ rfl, HR1.out.cell 3 _ rfl, HR1.out.cell 4 _ rfl, HR1.out.cell 5 _ rfl, HR1.out.cell 6 _ rfl, (Below.refl _ _).drew⟩
  rw [esz] at HG1
  have HSZ : Hid (w.heap.size + 1 < w1.heap.size) := HG1.out.lt
  clear HR0 HB0 HB1 HR1 e1 e3 esz LW
  go_region_held3 (fun w' => w'.cell? ⟨w.heap.size, 1, none⟩ = some (.int .i64 id) ∧ w'.cell? ⟨w.heap.size, 3, none⟩ = some (.string S) ∧ w'.cell? ⟨w.heap.size, 4, none⟩ = some (.int .i64 s) ∧ w'.cell? ⟨w.heap.size, 5, none⟩ = some (.int .i64 m) ∧ w'.cell? ⟨w.heap.size, 6, none⟩ = some (.int .i64 q) ∧ Below w1.heap.size w1 w') (first | assumption | exact HS0.out | exact So.step (by assumption) hb2) ((go_at_call 22; refine (PK.out _ _ (objAt_lent hn (RowL.drew HG1.out))).mono ?_; rintro _ w2 ⟨v, gs, rfl, hpk, hb2⟩))
  have HC := hide (show So w1 w.heap.size id s m q S w2 by assumption)
  have HB2 : Hid (Below w.heap.size w w2) := HBw.out.trans (HC.out.2.2.2.2.2.mono HBw.out.size)
  have HG2 := hide (HG1.out.later HC.out.2.2.2.2.2)
  have HP2 : Hid (Packs w2 w1.heap.size v c ps gs) := hpk
  have e1 := HC.out.1
  have e3 := HC.out.2.1
  have e4 := HC.out.2.2.1
  have e5 := HC.out.2.2.2.1
  have e6 := HC.out.2.2.2.2.1
  clear hpk hb2 HS0 HG1 HBw PK
  go_wp2_with (first | (go_at_call 40; refine (RF.out _).mono ?_; rintro _ w3 ⟨vw, rfl, how, hb3⟩; obtain ⟨aw, cw, ew⟩ := how.shape; rw [strs_length, hT.out] at ew; subst ew; obtain ⟨av, cv, ev⟩ := HP2.out.own.shape; rw [List.length_map, HP2.out.len, hT.out] at ev; subst ev; have HOW := hide how; have HC3 := hide (HC.out.step hb3); have HB3 := hide hb3; have j3 := HC3.out.2.1; clear how hb3) | (go_at_call 41; refine (returned_walk p (w.heap.size + 1) n t Q d nilS ts S hn hn2 HT hQ (by omega) w3 (hst.out.wb.row.later (HB2.out.trans (HB3.out.mono HB2.out.size))) (hst.out.ot.later (HB2.out.trans (HB3.out.mono HB2.out.size))) (HG2.out.later HB3.out)).mono ?_; rintro _ w4 ⟨rfl, vt, hrow4, hot4, hgi4, hkp4, hvt4⟩; have HMID := hide (hst.out.mid (HB2.out.trans (HB3.out.mono HB2.out.size)) (Nat.le_succ _) HSZ.out (HG2.out.later HB3.out) (HP2.out.later HB3.out) hpc.out hkp4 hrow4 hot4 hgi4 (by have := HT.out; unfold maxLen; omega) hvt4); have HKP4 := hide hkp4; have HVT4 := hide hvt4; clear hrow4 hot4 hgi4 hkp4 hvt4) | (go_at_call 42; refine (num_walk _ _).mono ?_; rintro _ wq ⟨rfl, hq⟩; have hq2 := hq.symm; clear hq; subst hq2))
  have HOW4 : Hid (OwnS w4 9 (.slice aw T cw) (strs ps)) := HKP4.out.own HOW.out (fun k hk hx => by
    rcases hx with rfl | hx | hx
    · exact HOW.out.ne_type (hst.out.wb.row.later (HB2.out.trans (HB3.out.mono HB2.out.size))) (by decide) hk
    · subst hx; exact HOW.out.ne_type (HG2.out.later HB3.out) (by decide) hk
    · exact HOW.out.ne_own (hst.out.ot.later (HB2.out.trans (HB3.out.mono HB2.out.size))) (by decide) hk hx)
  have HGL : Hid (gs.length = T) := by show _ = _; rw [HP2.out.len, hT.out]
  clear e1 e3 e4 e5 e6 j3
  go_loopw [11, 12] (fun ok x wr => ok = .bool true ∧ ∃ i : Nat, i ≤ T ∧ x = .int .i64 i ∧ Dr w4 wr) (fun _ x _ => leftOf T (intOf x).toNat)
  case atStart => exact ⟨by simp, 0, by omega, rfl, 0, rfl⟩
  case round =>
    obtain ⟨rfl, i, hiT, rfl, hdr⟩ := hrel
    replace hdr := hide hdr
    by_cases hi : i < T
    · have i1 : (i : Int) < (T : Int) := by omega
      have i0 : (0 : Int) ≤ (i : Int) := by omega
      have hig : i < gs.length := by rw [HGL.out]; exact hi
      have hip : i < ps.length := by rw [hT.out]; exact hi
      obtain ⟨gv, capv, curv, ev1, rv, lv1, lv2, lv3, lv4⟩ := HMID.out.kl.pown.open' (by rw [List.length_map]; omega)
      injection ev1 with ev1 ev2 ev3; clear ev2
      subst ev1; subst ev3
      obtain ⟨gw, capw, curw, ew1, rw', lw1, lw2, lw3, lw4⟩ := HOW4.out.open' (by rw [strs_length]; omega)
      injection ew1 with ew1 ew2 ew3; clear ew2
      subst ew1; subst ew3
      have k1 := (hdr.out.cell _).trans (rv.cell i _ (take_at lv4 (show (gs.map (packV c))[i]? = some (packV c gs[i]) by simp [hig])))
      have k2 := (hdr.out.cell _).trans (rw'.cell i _ (take_at lw4 (strs_at hip)))
      have hgr := HMID.out.kl.prow i gs[i] ps[i] (by simp [hig]) (by simp [hip])
      have hpl := HMID.out.kl.pc _ (List.getElem_mem hip)
      have epi : ps[i]?.getD [] = ps[i] := by simp [hip]
      rw [epi] at k2
      obtain ⟨g, hge⟩ : ∃ g, g = gs[i] := ⟨_, rfl⟩
      obtain ⟨P, hPe⟩ : ∃ P, P = ps[i] := ⟨_, rfl⟩
      rw [← hge] at k1 hgr
      rw [← hPe] at k2 hgr hpl
      unfold packV at k1
      have hcv : ∀ nq, (convert 36 9 (.slice (some ⟨g, 0, none⟩) c c)).run Try.prog (wr.drewN nq) = .ok (.string (strOf P)) (wr.drewN nq) := by
        intro nq
        obtain ⟨n4, e4⟩ := hdr.out
        rw [e4]
        exact conv_row ((hgr.drewN n4).drewN nq) hpl
      obtain ⟨X, hX⟩ : ∃ X, X = strOf P := ⟨_, rfl⟩
      rw [← hX] at k2 hcv
      clear rv lv1 lv2 lv3 lv4 rw' lw1 lw2 lw3 lw4 hgr hpl epi hge hPe hX hig hip
      go_wp2_with fail
      go_quiet (fail)
      go_wp2_with fail
      go_roundw
      case rel => exact ⟨by simp, i + 1, by omega, by go_num, hdr.out.more _⟩
      case measure => refine leftOf_lt ?_ ?_ <;> simp only [intOf] <;> omega
    · have i1 : ¬ (i : Int) < (T : Int) := by omega
      obtain ⟨n4, e4⟩ := hdr.out
      have HMr : Hid (Mid w wr p (d.withTurned vt) (.slice av T cv) c bs ls (ts ++ [.slice (some ⟨w.heap.size + 1, 0, none⟩) t t]) ps gs) := by rw [e4]; exact HMID.out.drewN n4
      have HKr : Hid (Kp (fun k => k = p ∨ k = w.heap.size + 1 ∨ d.turned.ownBlock = some k) w3 wr) := by rw [e4]; exact HKP4.out.drewN n4
      have KW := hide (kept_walk p (d.withTurned vt) nilS bs ls [] (ts ++ [.slice (some ⟨w.heap.size + 1, 0, none⟩) t t]) [] wr HMr.out.st.kept (by rw [hN.out]; omega) (by rw [hM.out]; omega) (by simp) HMr.out.st.wb.small)
      have KLW := hide (fun nq => keepLists_walk p T c N M (d.withTurned vt) nilS (.slice av T cv) bs ls ps gs HGL hc hN hN4 (by omega) hM hM4 (by omega) (wr.drewN nq) (HMr.out.drewN nq).kl (HMr.out.drewN nq).hlb (HMr.out.drewN nq).hlm)
      clear hdr e4 HMID HKP4 HOW4
      go_wp2_with (first | (go_at_call 15; refine KW.out.mono ?_; rintro _ w5 ⟨rfl, nq, rfl⟩) | (go_at_call 43; refine (KLW.out nq).mono ?_; rintro _ w6 ⟨rfl, vb, vl, bs', ls', hkd⟩; have HKD := hide hkd; clear hkd))
      go_ret
      have hB3 := HB2.out.trans (HB3.out.mono HB2.out.size)
      have hs5 : w.heap.size ≤ (wr.drewN nq).heap.size := Nat.le_trans hB3.size HKr.out.size
      refine ⟨rfl, _, bs', ls', _, ⟨(HMr.out.drewN nq).after HKD.out, by rw [HKD.out.lenb, HGL.out], HKD.out.lenl, by rw [List.length_append, hQ.out]; rfl, ?_, fun k hk => ?_, fun k hk => ?_, fun k hk => ?_⟩⟩
      · have h1 : Kp (fun k => k = p ∨ d.bytes.ownBlock = some k ∨ d.lists.ownBlock = some k ∨ d.turned.ownBlock = some k) w wr := (Kp.of_below hB3).join HKr.out (fun k hk => by
          rcases hk with h2 | h2 | h2
          · exact Or.inl (Or.inl h2)
          · exact Or.inr (by omega)
          · exact Or.inl (Or.inr (Or.inr (Or.inr h2))))
        refine (h1.drewN nq).join HKD.out.kp (fun k hk => ?_)
        rcases hk with h2 | h2 | h2 | h2 | h2
        · exact Or.inl (Or.inl h2)
        · have := HP2.out.at_ k h2
          have := HSZ.out
          exact Or.inr (by omega)
        · have := HP2.out.from_ k h2
          have := HSZ.out
          exact Or.inr (by omega)
        · exact Or.inl (Or.inr (Or.inl h2))
        · exact Or.inl (Or.inr (Or.inr (Or.inl h2)))
      · rcases HKD.out.vb k hk with h2 | h2
        · exact Or.inl h2
        · exact Or.inr (Nat.le_trans hs5 h2)
      · rcases HKD.out.vl k hk with h2 | h2
        · exact Or.inl h2
        · exact Or.inr (Nat.le_trans hs5 h2)
      · rcases HVT4.out k hk with h2 | h2
        · exact Or.inl h2
        · exact Or.inr (Nat.le_trans hB3.size h2)

set_option maxRecDepth 20000 in
set_option maxHeartbeats 2000000 in
theorem packets_bad (p n c T N M Q : Nat) (id s m q : Int) (S : ByteArray) (ps : List (List Nat)) (d : Wd) (bs ls ts : List Value) (hn : S.size = n) (hn2 : n ≤ 140737488355328) (hT : Hid (ps.length = T)) (hT2 : T ≤ 7200) (hpc : Hid (∀ b ∈ ps, b.length = c)) (hc : c ≤ 4096)
    (hN : Hid (bs.length = N)) (hN4 : N % 4 = 0) (hN2 : N ≤ 500000) (hM : Hid (ls.length = M)) (hM4 : M % 4 = 0) (hM2 : M ≤ 1000) (hQ : Hid (ts.length = Q)) (hQ2 : Q ≤ 1000) (w : World) (hst : Hid (St w p d bs ls ts))
    (PK : Hid (∀ (g : Nat) (w : World), ObjAt w (some ⟨g, 0, none⟩) n (bytesOf S) → Calls Try.prog 22 #[.int .i64 id, .slice (some ⟨g, 0, none⟩) n (n + 2), .agg #[.int .i64 s, .int .i64 m, .int .i64 q]] w fun e w' => ∃ v gs, e = .returned (.tuple #[v, .int .i64 1]) ∧ Packs w' w.heap.size v c ps gs ∧ Below w.heap.size w w'))
    (RF : Hid (∀ (w : World), Calls Try.prog 40 #[.int .i64 id, .string S, .agg #[.int .i64 s, .int .i64 m, .int .i64 q]] w fun e w' => ∃ vw, e = .returned (.tuple #[vw, .bool false]) ∧ OwnS w' 9 vw (strs ps) ∧ Below w.heap.size w w')) :
    Calls Try.prog 16 #[.pointer (some ⟨p, 0, none⟩), .agg (opV id s m q S)] w fun e w' => e = .returned (.bool true) ∧ ∃ d' bs' ls' ts', PkPost w p T N M Q d d' bs' ls' ts' w' := by
  have HR0 := hide (rowL_alloc' w (opV id s m q S) 44)
  have HB0 := hide ((Below.refl w.heap.size w).alloc (Nat.le_refl _) (.cells (opV id s m q S) 44))
  have e1 := HR0.out.cell 1 _ rfl
  have e3 := HR0.out.cell 3 _ rfl
  have LW := hide (fun w => lent_walk S n hn hn2 w)
  obtain ⟨t, ht⟩ : ∃ t, t = n + 2 := ⟨_, rfl⟩
  rw [← ht] at LW PK
  have HT := hide ht
  have nt : (n : Int) ≤ (t : Int) := by omega
  have n0 : (0 : Int) ≤ (n : Int) := by omega
  clear ht
  unfold opV at *
  go_enter Try.func16, Try.ntmps16
  go_wp2_with (go_at_call 39; refine (LW.out _).mono ?_; rintro _ w1 ⟨rfl, hr1, hb1⟩; have HR1 := hide (HR0.out.later hb1); have HG1 := hide hr1; have HB1 := hide hb1; clear hr1 hb1)
  have esz : (w.alloc (.cells #[.int .i64 0, .int .i64 id, .string ⟨#[]⟩, .string S, .int .i64 s, .int .i64 m, .int .i64 q, .slice none 0 0, .bool false] 44)).heap.size = w.heap.size + 1 := by simp
  have HBw := hide (HB0.out.trans (HB1.out.mono (by rw [esz]; omega)))
  have HS0 : Hid (So w1 w.heap.size id s m q S w1.drew) := ⟨HR1.out.cell 1 _ rfl, HR1.out.cell 3 _ rfl, HR1.out.cell 4 _ rfl, HR1.out.cell 5 _ rfl, HR1.out.cell 6 _ rfl, (Below.refl _ _).drew⟩
  rw [esz] at HG1
  have HSZ : Hid (w.heap.size + 1 < w1.heap.size) := HG1.out.lt
  clear HR0 HB0 HB1 HR1 e1 e3 esz LW
  go_region_held3 (fun w' => w'.cell? ⟨w.heap.size, 1, none⟩ = some (.int .i64 id) ∧ w'.cell? ⟨w.heap.size, 3, none⟩ = some (.string S) ∧ w'.cell? ⟨w.heap.size, 4, none⟩ = some (.int .i64 s) ∧ w'.cell? ⟨w.heap.size, 5, none⟩ = some (.int .i64 m) ∧ w'.cell? ⟨w.heap.size, 6, none⟩ = some (.int .i64 q) ∧ Below w1.heap.size w1 w') (first | assumption | exact HS0.out | exact So.step (by assumption) hb2) ((go_at_call 22; refine (PK.out _ _ (objAt_lent hn (RowL.drew HG1.out))).mono ?_; rintro _ w2 ⟨v, gs, rfl, hpk, hb2⟩))
  have HC := hide (show So w1 w.heap.size id s m q S w2 by assumption)
  have HB2 : Hid (Below w.heap.size w w2) := HBw.out.trans (HC.out.2.2.2.2.2.mono HBw.out.size)
  have HG2 := hide (HG1.out.later HC.out.2.2.2.2.2)
  have HP2 : Hid (Packs w2 w1.heap.size v c ps gs) := hpk
  have e1 := HC.out.1
  have e3 := HC.out.2.1
  have e4 := HC.out.2.2.1
  have e5 := HC.out.2.2.2.1
  have e6 := HC.out.2.2.2.2.1
  clear hpk hb2 HS0 HG1 HBw PK
  go_wp2_with (first | (go_at_call 40; refine (RF.out _).mono ?_; rintro _ w3 ⟨vw, rfl, how, hb3⟩; obtain ⟨aw, cw, ew⟩ := how.shape; rw [strs_length, hT.out] at ew; subst ew; obtain ⟨av, cv, ev⟩ := HP2.out.own.shape; rw [List.length_map, HP2.out.len, hT.out] at ev; subst ev; have HOW := hide how; have HC3 := hide (HC.out.step hb3); have HB3 := hide hb3; have j3 := HC3.out.2.1; clear how hb3) | (go_at_call 41; refine (returned_walk p (w.heap.size + 1) n t Q d nilS ts S hn hn2 HT hQ (by omega) w3 (hst.out.wb.row.later (HB2.out.trans (HB3.out.mono HB2.out.size))) (hst.out.ot.later (HB2.out.trans (HB3.out.mono HB2.out.size))) (HG2.out.later HB3.out)).mono ?_; rintro _ w4 ⟨rfl, vt, hrow4, hot4, hgi4, hkp4, hvt4⟩; have HMID := hide (hst.out.mid (HB2.out.trans (HB3.out.mono HB2.out.size)) (Nat.le_succ _) HSZ.out (HG2.out.later HB3.out) (HP2.out.later HB3.out) hpc.out hkp4 hrow4 hot4 hgi4 (by have := HT.out; unfold maxLen; omega) hvt4); have HKP4 := hide hkp4; have HVT4 := hide hvt4; clear hrow4 hot4 hgi4 hkp4 hvt4) | (go_at_call 42; refine (num_walk _ _).mono ?_; rintro _ wq ⟨rfl, hq⟩; have hq2 := hq.symm; clear hq; subst hq2))
  have HOW4 : Hid (OwnS w4 9 (.slice aw T cw) (strs ps)) := HKP4.out.own HOW.out (fun k hk hx => by
    rcases hx with rfl | hx | hx
    · exact HOW.out.ne_type (hst.out.wb.row.later (HB2.out.trans (HB3.out.mono HB2.out.size))) (by decide) hk
    · subst hx; exact HOW.out.ne_type (HG2.out.later HB3.out) (by decide) hk
    · exact HOW.out.ne_own (hst.out.ot.later (HB2.out.trans (HB3.out.mono HB2.out.size))) (by decide) hk hx)
  have HGL : Hid (gs.length = T) := by show _ = _; rw [HP2.out.len, hT.out]
  clear e1 e3 e4 e5 e6 j3
  go_loopw [11, 12] (fun ok x wr => ok = .bool true ∧ ∃ i : Nat, i ≤ T ∧ x = .int .i64 i ∧ Dr w4 wr) (fun _ x _ => leftOf T (intOf x).toNat)
  case atStart => exact ⟨by simp, 0, by omega, rfl, 0, rfl⟩
  case round =>
    obtain ⟨rfl, i, hiT, rfl, hdr⟩ := hrel
    replace hdr := hide hdr
    by_cases hi : i < T
    · have i1 : (i : Int) < (T : Int) := by omega
      have i0 : (0 : Int) ≤ (i : Int) := by omega
      have hig : i < gs.length := by rw [HGL.out]; exact hi
      have hip : i < ps.length := by rw [hT.out]; exact hi
      obtain ⟨gv, capv, curv, ev1, rv, lv1, lv2, lv3, lv4⟩ := HMID.out.kl.pown.open' (by rw [List.length_map]; omega)
      injection ev1 with ev1 ev2 ev3; clear ev2
      subst ev1; subst ev3
      obtain ⟨gw, capw, curw, ew1, rw', lw1, lw2, lw3, lw4⟩ := HOW4.out.open' (by rw [strs_length]; omega)
      injection ew1 with ew1 ew2 ew3; clear ew2
      subst ew1; subst ew3
      have k1 := (hdr.out.cell _).trans (rv.cell i _ (take_at lv4 (show (gs.map (packV c))[i]? = some (packV c gs[i]) by simp [hig])))
      have k2 := (hdr.out.cell _).trans (rw'.cell i _ (take_at lw4 (strs_at hip)))
      have hgr := HMID.out.kl.prow i gs[i] ps[i] (by simp [hig]) (by simp [hip])
      have hpl := HMID.out.kl.pc _ (List.getElem_mem hip)
      have epi : ps[i]?.getD [] = ps[i] := by simp [hip]
      rw [epi] at k2
      obtain ⟨g, hge⟩ : ∃ g, g = gs[i] := ⟨_, rfl⟩
      obtain ⟨P, hPe⟩ : ∃ P, P = ps[i] := ⟨_, rfl⟩
      rw [← hge] at k1 hgr
      rw [← hPe] at k2 hgr hpl
      unfold packV at k1
      have hcv : ∀ nq, (convert 36 9 (.slice (some ⟨g, 0, none⟩) c c)).run Try.prog (wr.drewN nq) = .ok (.string (strOf P)) (wr.drewN nq) := by
        intro nq
        obtain ⟨n4, e4⟩ := hdr.out
        rw [e4]
        exact conv_row ((hgr.drewN n4).drewN nq) hpl
      obtain ⟨X, hX⟩ : ∃ X, X = strOf P := ⟨_, rfl⟩
      rw [← hX] at k2 hcv
      clear rv lv1 lv2 lv3 lv4 rw' lw1 lw2 lw3 lw4 hgr hpl epi hge hPe hX hig hip
      go_wp2_with fail
      go_quiet (fail)
      go_wp2_with fail
      go_roundw
      case rel => exact ⟨by simp, i + 1, by omega, by go_num, hdr.out.more _⟩
      case measure => refine leftOf_lt ?_ ?_ <;> simp only [intOf] <;> omega
    · have i1 : ¬ (i : Int) < (T : Int) := by omega
      obtain ⟨n4, e4⟩ := hdr.out
      have HMr : Hid (Mid w wr p (d.withTurned vt) (.slice av T cv) c bs ls (ts ++ [.slice (some ⟨w.heap.size + 1, 0, none⟩) t t]) ps gs) := by rw [e4]; exact HMID.out.drewN n4
      have HKr : Hid (Kp (fun k => k = p ∨ k = w.heap.size + 1 ∨ d.turned.ownBlock = some k) w3 wr) := by rw [e4]; exact HKP4.out.drewN n4
      have KW := hide (kept_walk p (d.withTurned vt) nilS bs ls [] (ts ++ [.slice (some ⟨w.heap.size + 1, 0, none⟩) t t]) [] wr HMr.out.st.kept (by rw [hN.out]; omega) (by rw [hM.out]; omega) (by simp) HMr.out.st.wb.small)
      have KLW := hide (fun nq => keepLists_walk p T c N M (d.withTurned vt) nilS (.slice av T cv) bs ls ps gs HGL hc hN hN4 (by omega) hM hM4 (by omega) (wr.drewN nq) (HMr.out.drewN nq).kl (HMr.out.drewN nq).hlb (HMr.out.drewN nq).hlm)
      clear hdr e4 HMID HKP4 HOW4
      go_wp2_with (first | (go_at_call 15; refine KW.out.mono ?_; rintro _ w5 ⟨rfl, nq, rfl⟩) | (go_at_call 43; refine (KLW.out nq).mono ?_; rintro _ w6 ⟨rfl, vb, vl, bs', ls', hkd⟩; have HKD := hide hkd; clear hkd))
      go_ret
      have hB3 := HB2.out.trans (HB3.out.mono HB2.out.size)
      have hs5 : w.heap.size ≤ (wr.drewN nq).heap.size := Nat.le_trans hB3.size HKr.out.size
      refine ⟨rfl, _, bs', ls', _, ⟨(HMr.out.drewN nq).after HKD.out, by rw [HKD.out.lenb, HGL.out], HKD.out.lenl, by rw [List.length_append, hQ.out]; rfl, ?_, fun k hk => ?_, fun k hk => ?_, fun k hk => ?_⟩⟩
      · have h1 : Kp (fun k => k = p ∨ d.bytes.ownBlock = some k ∨ d.lists.ownBlock = some k ∨ d.turned.ownBlock = some k) w wr := (Kp.of_below hB3).join HKr.out (fun k hk => by
          rcases hk with h2 | h2 | h2
          · exact Or.inl (Or.inl h2)
          · exact Or.inr (by omega)
          · exact Or.inl (Or.inr (Or.inr (Or.inr h2))))
        refine (h1.drewN nq).join HKD.out.kp (fun k hk => ?_)
        rcases hk with h2 | h2 | h2 | h2 | h2
        · exact Or.inl (Or.inl h2)
        · have := HP2.out.at_ k h2
          have := HSZ.out
          exact Or.inr (by omega)
        · have := HP2.out.from_ k h2
          have := HSZ.out
          exact Or.inr (by omega)
        · exact Or.inl (Or.inr (Or.inl h2))
        · exact Or.inl (Or.inr (Or.inr (Or.inl h2)))
      · rcases HKD.out.vb k hk with h2 | h2
        · exact Or.inl h2
        · exact Or.inr (Nat.le_trans hs5 h2)
      · rcases HKD.out.vl k hk with h2 | h2
        · exact Or.inl h2
        · exact Or.inr (Nat.le_trans hs5 h2)
      · rcases HVT4.out k hk with h2 | h2
        · exact Or.inl h2
        · exact Or.inr (Nat.le_trans hB3.size h2)

/- Whatever the step says. -/
theorem packets_walk (p n N M Q : Nat) (id s m q : Int) (S : ByteArray) (d : Wd) (bs ls ts : List Value) (hn : S.size = n) (hn2 : n ≤ 140737488355328) (hN : bs.length = N) (hN4 : N % 4 = 0) (hN2 : N ≤ 500000) (hM : ls.length = M) (hM4 : M % 4 = 0) (hM2 : M ≤ 1000) (hQ : ts.length = Q) (hQ2 : Q ≤ 1000) (w : World) (hst : St w p d bs ls ts) :
    Calls Try.prog 16 #[.pointer (some ⟨p, 0, none⟩), .agg (opV id s m q S)] w fun e w' => e = .returned (.bool true) ∧ ∃ T d' bs' ls' ts', T ≤ 7200 ∧ PkPost w p T N M Q d d' bs' ls' ts' w' := by
  have bad : (∀ (g : Nat) (w : World), Calls Try.prog 22 #[.int .i64 id, .slice (some ⟨g, 0, none⟩) n (n + 2), .agg #[.int .i64 s, .int .i64 m, .int .i64 q]] w fun e w' => e = .returned (.tuple #[.slice none 0 0, .int .i64 1]) ∧ Below w.heap.size w w') →
      (∀ (w : World), Calls Try.prog 40 #[.int .i64 id, .string S, .agg #[.int .i64 s, .int .i64 m, .int .i64 q]] w fun e w' => e = .returned (.tuple #[.slice none 0 0, .bool false]) ∧ Below w.heap.size w w') →
      Calls Try.prog 16 #[.pointer (some ⟨p, 0, none⟩), .agg (opV id s m q S)] w fun e w' => e = .returned (.bool true) ∧ ∃ T d' bs' ls' ts', T ≤ 7200 ∧ PkPost w p T N M Q d d' bs' ls' ts' w' := by
    intro h1 h2
    refine (packets_bad p n 0 0 N M Q id s m q S [] d bs ls ts hn hn2 rfl (by omega) (by intro b hb; simp at hb) (by omega) hN hN4 hN2 hM hM4 hM2 hQ hQ2 w hst (fun g w' _ => (h1 g w').mono ?_) (fun w' => (h2 w').mono ?_)).mono ?_
    · rintro e w'' ⟨rfl, hb⟩
      exact ⟨_, [], rfl, Packs.nil _ _ _, hb⟩
    · rintro e w'' ⟨rfl, hb⟩
      exact ⟨_, rfl, ownS_nil _ _, hb⟩
    · rintro e w'' ⟨rfl, d', bs', ls', ts', hp⟩
      exact ⟨rfl, 0, d', bs', ls', ts', by omega, hp⟩
  by_cases h : 0 ≤ id ∧ id ≤ 65535 ∧ (n : Int) ≤ 2000 ∧ planOk s m q
  · obtain ⟨a1, a2, a3, b1, b2, b3, b4, b5, b6⟩ := h
    obtain ⟨id', rfl⟩ := Int.eq_ofNat_of_zero_le a1
    obtain ⟨s', rfl⟩ := Int.eq_ofNat_of_zero_le (show 0 ≤ s by omega)
    obtain ⟨m', rfl⟩ := Int.eq_ofNat_of_zero_le (show 0 ≤ m by omega)
    obtain ⟨q', rfl⟩ := Int.eq_ofNat_of_zero_le b5
    by_cases hc : Cut.blocks (Cut.pieces n s') m' ≤ 256
    · have hol : (bytesOf S).length = n := by rw [bytesOf_length, hn]
      have hlen : (Pk.packets id' (bytesOf S) s' m' q').length ≤ 7200 := by
        unfold Pk.packets
        rw [hol, Pk.upTo_length _ _ _ _ _ _ _ _ (Nat.le_refl _), List.take_length, Cut.sizes_sum (by omega), Cut.sizes_length]
        have h8 := Cut.pieces_le (len := n) (s := s') (by omega) (by omega)
        have h9 : Cut.blocks (Cut.pieces n s') m' * q' ≤ 256 * 20 := Nat.mul_le_mul hc (by omega)
        omega
      have hpc : ∀ b ∈ Pk.packets id' (bytesOf S) s' m' q', b.length = 10 + s' := by
        intro b hb
        unfold Pk.packets at hb
        rw [hol] at hb
        unfold Pk.upTo at hb
        obtain ⟨z, hz, hb⟩ := List.mem_flatMap.1 hb
        unfold Pk.ofBlock at hb
        obtain ⟨k, hk, rfl⟩ := List.mem_map.1 hb
        refine Pk.packet_length (Pk.pieceN_length (blk_length (List.mem_range.1 hz) (Cut.sizes_sum (by omega)) rfl (Pk.filled_length ?_)))
        rw [hol]; exact Cut.pieces_cover (by omega)
      refine (packets_good p n (10 + s') _ N M Q id' s' m' q' S (Pk.packets id' (bytesOf S) s' m' q') d bs ls ts hn hn2 rfl hlen hpc (by omega) hN hN4 hN2 hM hM4 hM2 hQ hQ2 w hst
        (fun g w' ho => fPackets_walk (some ⟨g, 0, none⟩) n (n + 2) id' s' m' q' (bytesOf S) (by omega) (by omega) (by omega) (by omega) (by omega) (by omega) (by omega) hc w' ho)
        (fun w' => refPackets_walk id' n s' m' q' (bytesOf S) S (strOf_bytesOf S).symm (bytesOf_lt S) hol (by omega) (by omega) (by omega) (by omega) (by omega) (by omega) (by omega) hc w')).mono ?_
      rintro e w'' ⟨rfl, d', bs', ls', ts', hp⟩
      exact ⟨rfl, _, d', bs', ls', ts', hlen, hp⟩
    · exact bad (fun g w' => fPackets_many _ n (n + 2) id' s' m' q' (by omega) (by omega) (by omega) (by omega) (by omega) (by omega) hc w')
        (fun w' => refPackets_many id' s' m' q' n _ S hn (by omega) (by omega) (by omega) (by omega) (by omega) (by omega) (by omega) rfl (by omega) w')
  · refine bad (fun g w' => ?_) (fun w' => refPackets_refused id s m q S n hn h w')
    by_cases h2 : (n : Int) ≤ 2000 ∧ planOk s m q
    · obtain ⟨a3, b1, b2, b3, b4, b5, b6⟩ := h2
      have hid : ¬ (0 ≤ id ∧ id ≤ 65535) := fun hi => h ⟨hi.1, hi.2, a3, b1, b2, b3, b4, b5, b6⟩
      obtain ⟨s', rfl⟩ := Int.eq_ofNat_of_zero_le (show 0 ≤ s by omega)
      obtain ⟨m', rfl⟩ := Int.eq_ofNat_of_zero_le (show 0 ≤ m by omega)
      obtain ⟨q', rfl⟩ := Int.eq_ofNat_of_zero_le b5
      by_cases hc : Cut.blocks (Cut.pieces n s') m' ≤ 256
      · exact fPackets_noId _ n (n + 2) id s' m' q' hid (by omega) (by omega) (by omega) (by omega) (by omega) (by omega) hc w'
      · exact fPackets_many _ n (n + 2) id s' m' q' (by omega) (by omega) (by omega) (by omega) (by omega) (by omega) hc w'
    · exact fPackets_refused _ n (n + 2) id s m q h2 w'
end Go.Proofs.Ytmfpiodlecapiaa
