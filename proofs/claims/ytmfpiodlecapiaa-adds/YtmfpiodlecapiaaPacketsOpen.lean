/- Packets' answer, laid open: the list's row, and of each packet its own. -/
import Derived.Test.YtmfpiodlecapiaaKeepFns
namespace Go.Proofs.Ytmfpiodlecapiaa
open Go.RowKit Go.Deep

theorem Cut.sizes_head {n z i : Nat} (hi : i < z) : (Cut.shareL n z)[i]?.getD 0 ≤ (Cut.shareL n z)[0]?.getD 0 ∧ (Cut.shareL n z)[0]?.getD 0 - 1 ≤ (Cut.shareL n z)[i]?.getD 0 ∧ (1 ≤ i → (Cut.shareL n z)[i]?.getD 0 ≤ (Cut.shareL n z)[i - 1]?.getD 0) := by
  rw [Cut.shareL_at hi, Cut.shareL_at (show 0 < z by omega)]
  refine ⟨?_, ?_, fun h1 => ?_⟩
  case' refine_3 => rw [Cut.shareL_at (show i - 1 < z by omega)]
  all_goals
    simp only [Option.getD_some]
    generalize n / z = q
    generalize n % z = r
    split <;> split <;> omega

theorem Cut.sizes_facts {n s m k : Nat} {L : List Nat} (hL : L = Cut.sizes n s m) (h3 : 1 ≤ m) (hk : k < L.length) :
    1 ≤ L[k]?.getD 0 ∧ L[k]?.getD 0 ≤ m ∧ L[k]?.getD 0 ≤ L[0]?.getD 0 ∧ L[0]?.getD 0 - 1 ≤ L[k]?.getD 0 ∧ (1 ≤ k → L[k]?.getD 0 ≤ L[k - 1]?.getD 0) := by
  subst hL
  have e : (Cut.sizes n s m)[k]?.getD 0 = (Cut.sizes n s m)[k] := by simp [hk]
  have hb := Cut.sizes_bounds h3 _ (List.getElem_mem hk)
  rw [← e] at hb
  exact ⟨hb.1, hb.2, Cut.sizes_head (by rw [Cut.sizes_length] at hk; exact hk)⟩

structure PacketsAt (w : World) (gl T c : Nat) (cur : List Value) (ps : List (List Nat)) : Prop where
  row : RowL w gl 36 cur
  len : ps.length = T
  at_ : ∀ (q : Nat) (bs : List Nat), ps[q]? = some bs → ∃ g, cur[q]? = some (packV c g) ∧ RowL w g 5 (u8s bs)
theorem PacketsAt.later {w w' : World} {gl T c : Nat} {cur : List Value} {ps : List (List Nat)} (h : PacketsAt w gl T c cur ps) (hb : Below w.heap.size w w') : PacketsAt w' gl T c cur ps :=
  ⟨h.row.later hb, h.len, fun q bs hq => by obtain ⟨g, h1, h2⟩ := h.at_ q bs hq; exact ⟨g, h1, h2.later hb⟩⟩

theorem Packs.opened {w : World} {B : Nat} {v : Value} {c : Nat} {ps : List (List Nat)} {gs : List Nat} (h : Packs w B v c ps gs) (hp : 0 < ps.length) : ∃ gl cap cur, v = .slice (some ⟨gl, 0, none⟩) ps.length cap ∧ PacketsAt w gl ps.length c cur ps := by
  obtain ⟨g, cap, cur, rfl, hr, h1, h2, h3, h4⟩ := h.own.open' (by rw [List.length_map, h.len]; exact hp)
  refine ⟨g, cap, cur, by rw [List.length_map, h.len], hr, rfl, fun q bs hq => ?_⟩
  have hlt : q < gs.length := by rw [h.len]; exact (List.getElem?_eq_some_iff.1 hq).1
  refine ⟨gs[q], take_at h4 (by simp [hlt]), h.row q _ _ (by simp [hlt]) hq⟩

theorem fPackets_open (ao : Option Addr) (n cap id s m p T : Nat) (obj L : List Nat) (hid : id < 65536) (hl : n ≤ 2000) (h1 : 1 ≤ s) (h2 : s ≤ 16) (h3 : 1 ≤ m) (h4 : m ≤ 20) (h5 : p ≤ 20) (hm : manyN n s m = false) (hL : L = Cut.sizes n s m) (hT : Pk.start L p L.length = T) (w : World) (hobj : ObjAt w ao n obj) :
    Calls Try.prog 22 #[.int .i64 id, .slice ao n cap, .agg #[.int .i64 s, .int .i64 m, .int .i64 p]] w fun e w' =>
      ∃ gl cap cur, e = .returned (.tuple #[.slice (some ⟨gl, 0, none⟩) T cap, .int .i64 0]) ∧ PacketsAt w' gl T (10 + s) cur (Pk.packets id obj s m p) ∧ Below w.heap.size w w' := by
  have hc : Cut.blocks (Cut.pieces n s) m ≤ 256 := by
    rw [manyN_eq h3] at hm
    simpa using hm
  refine (fPackets_walk ao n cap id s m p obj hid hl h1 h2 h3 h4 h5 hc w hobj).mono ?_
  rintro e w' ⟨v, gs, rfl, hp, hb⟩
  have hlen : (Pk.packets id obj s m p).length = T := by
    unfold Pk.packets
    rw [hobj.1, Pk.upTo_len (Nat.le_refl _), ← hL, hT]
  have hpos : 0 < T := by
    rw [← hT]
    have hb1 := Cut.blocks_pos (Cut.pieces_pos n s) h3
    have hs := Cut.sizes_sum (len := n) (s := s) h3
    have hp1 := Cut.pieces_pos n s
    unfold Pk.start
    rw [List.take_length, hL, hs]
    omega
  obtain ⟨gl, cap', cur, rfl, hpa⟩ := hp.opened (by omega)
  rw [hlen] at hpa
  exact ⟨gl, cap', cur, by rw [hlen], hpa, hb⟩

theorem fPackets_no (ao : Option Addr) (n cap : Nat) (id : Int) (s m p : Nat) (hl : n ≤ 2000) (h1 : 1 ≤ s) (h2 : s ≤ 16) (h3 : 1 ≤ m) (h4 : m ≤ 20) (h5 : p ≤ 20) (hm : manyN n s m = true) (w : World) :
    Calls Try.prog 22 #[.int .i64 id, .slice ao n cap, .agg #[.int .i64 s, .int .i64 m, .int .i64 p]] w fun e w' => e = .returned (.tuple #[.slice none 0 0, .int .i64 1]) ∧ Below w.heap.size w w' :=
  fPackets_many ao n cap id s m p hl h1 h2 h3 h4 h5 (by rw [manyN_eq h3] at hm; simpa using hm) w

theorem fBlocks_no (n s m p : Nat) (hl : n ≤ 2000) (h1 : 1 ≤ s) (h2 : s ≤ 16) (h3 : 1 ≤ m) (h4 : m ≤ 20) (h5 : p ≤ 20) (hm : manyN n s m = true) (w : World) :
    Calls Try.prog 23 #[.int .i64 n, .agg #[.int .i64 s, .int .i64 m, .int .i64 p]] w fun e w' => e = .returned (.tuple #[.slice none 0 0, .int .i64 1]) ∧ Below w.heap.size w w' :=
  fBlocks_many n s m p hl h1 h2 h3 h4 h5 (by rw [manyN_eq h3] at hm; simpa using hm) w

theorem fBlocks_open (n s m p Z : Nat) (L : List Nat) (hl : n ≤ 2000) (h1 : 1 ≤ s) (h2 : s ≤ 16) (h3 : 1 ≤ m) (h4 : m ≤ 20) (h5 : p ≤ 20) (hm : manyN n s m = false) (hL : L = Cut.sizes n s m) (hZ : L.length = Z) (w : World) :
    Calls Try.prog 23 #[.int .i64 n, .agg #[.int .i64 s, .int .i64 m, .int .i64 p]] w fun e w' =>
        ∃ g, w.heap.size ≤ g ∧ e = .returned (.tuple #[.slice (some ⟨g, 0, none⟩) Z Z, .int .i64 0]) ∧ Below w.heap.size w w' ∧ RowL w' g 3 (i64s L) := by
  have hc : Cut.blocks (Cut.pieces n s) m ≤ 256 := by
    rw [manyN_eq h3] at hm
    simpa using hm
  subst hL
  rw [Cut.sizes_length] at hZ
  subst hZ
  exact fBlocks_walk n s m p hl h1 h2 h3 h4 h5 hc w
end Go.Proofs.Ytmfpiodlecapiaa
