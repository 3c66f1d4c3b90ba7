/- Whether bytes are a packet: Unpack of any bytes. -/
import Derived.Test.YtmfpiodlecapiaaDoorUnpack
namespace Go.Proofs.YtmfpiodlecapiaaDoor
open Go.RowKit Go.Deep

theorem planOk_nat {s m p : Nat} : planOk (s : Int) (m : Int) (p : Int) ↔ (1 ≤ s ∧ s ≤ 16) ∧ (1 ≤ m ∧ m ≤ 20) ∧ p ≤ 20 := by
  unfold planOk
  omega
theorem sizes_at {L s m z : Nat} (hm : 1 ≤ m) (hz : z < Cut.blocks (Cut.pieces L s) m) : ∃ k, (Cut.sizes L s m)[z]? = some k ∧ 1 ≤ k ∧ k ≤ m := by
  have hlt : z < (Cut.sizes L s m).length := by rw [Cut.sizes_length]; exact hz
  exact ⟨_, List.getElem?_eq_getElem hlt, Cut.sizes_bounds hm _ (List.getElem_mem hlt)⟩

/- What Unpack tells of a packet. -/
def headOf (l : List Nat) : Value := headV (256 * l[1]?.getD 0 + l[2]?.getD 0) (256 * l[3]?.getD 0 + l[4]?.getD 0) (l[5]?.getD 0) (l[6]?.getD 0) (l[7]?.getD 0) (l[8]?.getD 0) (l[9]?.getD 0)
theorem unpack_packet (b off n cap : Nat) (l : List Nat) (w : World) (h : ObjAt w (some ⟨b, off, none⟩) n l) (hcap : n ≤ cap) (hp : Tx.IsPacket l) :
    Calls Tryd.prog 16 #[.slice (some ⟨b, off, none⟩) n cap] w fun r w' => r = .returned (.tuple #[headOf l, .slice (some ⟨b, off + 10, none⟩) (n - 10) (cap - 10)]) ∧ Below w.heap.size w w' := by
  obtain ⟨hl, hb, hc⟩ := h
  obtain ⟨p0, p1, p2, p3, p4, p5, p6, p7, p8, p9⟩ := hp
  obtain ⟨b', off', e, hc⟩ := hc (by omega)
  injection e with e
  injection e with e1 e2
  subst e1 e2
  have hc1 := hc 0 (by omega)
  rw [p1, Nat.add_zero] at hc1
  have lt : ∀ i, i < n → l[i]?.getD 0 < 256 := fun i hi => getD_lt hb (by omega)
  obtain ⟨s, hs, hs1, hs2⟩ := sizes_at (by omega) p7
  rw [hs] at p8
  exact unpack_ok b off n cap _ _ _ _ _ _ _ _ _ _ _ s hcap (lt 1 (by omega)) (lt 2 (by omega)) (lt 3 (by omega)) (lt 4 (by omega)) (lt 5 (by omega)) (lt 6 (by omega)) (lt 7 (by omega)) (lt 8 (by omega)) (lt 9 (by omega)) w hc1 (hc 1 (by omega)) (hc 2 (by omega)) (hc 3 (by omega)) (hc 4 (by omega)) (hc 5 (by omega)) (hc 6 (by omega)) (hc 7 (by omega)) (hc 8 (by omega)) (hc 9 (by omega)) (hide rfl) p2 p3.1 p3.2 p4.1 p4.2 p5 (hide rfl) p6 p7 (hide hs) (by omega) p8 (hide (by omega))
theorem unpack_none (ao : Option Addr) (n cap : Nat) (l : List Nat) (w : World) (h : ObjAt w ao n l) (hp : ¬ Tx.IsPacket l) :
    Calls Tryd.prog 16 #[.slice ao n cap] w fun r w' => r = .panicked [{ v := faultV 2, recovered := false }] ∧ Below w.heap.size w w' := by
  obtain ⟨hl, hb, hcc⟩ := h
  by_cases hn : n ≤ 10
  · exact unpack_short ao n cap hn w
  obtain ⟨b, off, rfl, hc⟩ := hcc (by omega)
  have hc0 := hc 0 (by omega)
  rw [Nat.add_zero] at hc0
  by_cases h0 : l[0]?.getD 0 = 70
  · have lt : ∀ i, i < n → l[i]?.getD 0 < 256 := fun i hi => getD_lt hb (by omega)
    rw [h0] at hc0
    obtain ⟨L, hL⟩ : ∃ L, L = 256 * l[3]?.getD 0 + l[4]?.getD 0 := ⟨_, rfl⟩
    by_cases hq : L ≤ 2000 ∧ (1 ≤ l[5]?.getD 0 ∧ l[5]?.getD 0 ≤ 16) ∧ (1 ≤ l[6]?.getD 0 ∧ l[6]?.getD 0 ≤ 20) ∧ l[7]?.getD 0 ≤ 20
    · obtain ⟨q1, q2, q3, q4⟩ := hq
      by_cases hZ : Cut.blocks (Cut.pieces L (l[5]?.getD 0)) (l[6]?.getD 0) ≤ 256
      · by_cases hz : l[8]?.getD 0 < Cut.blocks (Cut.pieces L (l[5]?.getD 0)) (l[6]?.getD 0)
        · obtain ⟨s, hs, hs1, hs2⟩ := sizes_at (by omega) hz
          by_cases hp9 : l[9]?.getD 0 < s + l[7]?.getD 0
          · have hnn : ¬ n = 10 + l[5]?.getD 0 := fun e => hp (by
              unfold Tx.IsPacket
              rw [← hL]
              exact ⟨by omega, h0, q1, q2, q3, q4, hZ, hz, by rw [hs]; exact hp9, by omega⟩)
            exact unpack_length b off n cap _ _ _ _ _ _ _ _ _ L _ s (by omega) (lt 1 (by omega)) (lt 2 (by omega)) (lt 3 (by omega)) (lt 4 (by omega)) (lt 5 (by omega)) (lt 6 (by omega)) (lt 7 (by omega)) (lt 8 (by omega)) (lt 9 (by omega)) w hc0 (hc 1 (by omega)) (hc 2 (by omega)) (hc 3 (by omega)) (hc 4 (by omega)) (hc 5 (by omega)) (hc 6 (by omega)) (hc 7 (by omega)) (hc 8 (by omega)) (hc 9 (by omega)) (hide hL) q1 q2.1 q2.2 q3.1 q3.2 q4 (hide rfl) hZ hz (hide hs) (by omega) hp9 hnn
          · exact unpack_piece b off n cap _ _ _ _ _ _ _ _ _ L _ s (by omega) (lt 1 (by omega)) (lt 2 (by omega)) (lt 3 (by omega)) (lt 4 (by omega)) (lt 5 (by omega)) (lt 6 (by omega)) (lt 7 (by omega)) (lt 8 (by omega)) (lt 9 (by omega)) w hc0 (hc 1 (by omega)) (hc 2 (by omega)) (hc 3 (by omega)) (hc 4 (by omega)) (hc 5 (by omega)) (hc 6 (by omega)) (hc 7 (by omega)) (hc 8 (by omega)) (hc 9 (by omega)) (hide hL) q1 q2.1 q2.2 q3.1 q3.2 q4 (hide rfl) hZ hz (hide hs) (by omega) hp9
        · exact unpack_block b off n cap _ _ _ _ _ _ _ _ _ L _ (by omega) (lt 1 (by omega)) (lt 2 (by omega)) (lt 3 (by omega)) (lt 4 (by omega)) (lt 5 (by omega)) (lt 6 (by omega)) (lt 7 (by omega)) (lt 8 (by omega)) (lt 9 (by omega)) w hc0 (hc 1 (by omega)) (hc 2 (by omega)) (hc 3 (by omega)) (hc 4 (by omega)) (hc 5 (by omega)) (hc 6 (by omega)) (hc 7 (by omega)) (hc 8 (by omega)) (hc 9 (by omega)) (hide hL) q1 q2.1 q2.2 q3.1 q3.2 q4 (hide rfl) hZ hz
      · exact unpack_many b off n cap _ _ _ _ _ _ _ _ _ L (by omega) (lt 1 (by omega)) (lt 2 (by omega)) (lt 3 (by omega)) (lt 4 (by omega)) (lt 5 (by omega)) (lt 6 (by omega)) (lt 7 (by omega)) (lt 8 (by omega)) (lt 9 (by omega)) w hc0 (hc 1 (by omega)) (hc 2 (by omega)) (hc 3 (by omega)) (hc 4 (by omega)) (hc 5 (by omega)) (hc 6 (by omega)) (hc 7 (by omega)) (hc 8 (by omega)) (hc 9 (by omega)) (hide hL) q1 q2.1 q2.2 q3.1 q3.2 q4 hZ
    · refine unpack_refused b off n cap _ _ _ _ _ _ _ _ _ L (by omega) (lt 1 (by omega)) (lt 2 (by omega)) (lt 3 (by omega)) (lt 4 (by omega)) (lt 5 (by omega)) (lt 6 (by omega)) (lt 7 (by omega)) (lt 8 (by omega)) (lt 9 (by omega)) w hc0 (hc 1 (by omega)) (hc 2 (by omega)) (hc 3 (by omega)) (hc 4 (by omega)) (hc 5 (by omega)) (hc 6 (by omega)) (hc 7 (by omega)) (hc 8 (by omega)) (hc 9 (by omega)) (hide hL) (fun hx => hq ?_)
      rw [planOk_nat] at hx
      exact ⟨by omega, hx.2.2⟩
  · exact unpack_mark b off n cap _ (by omega) h0 w hc0
end Go.Proofs.YtmfpiodlecapiaaDoor
