/- A slice of the caller's own, at the head of a block that is known whole; and what append does to it: there is room, or a new block is made; the elements that were there stay where they were. -/
import Derived.Test.YtmfpiodlecapiaaDoorMem
namespace Go.Proofs.YtmfpiodlecapiaaDoor
open Go.RowKit Go.Deep

def OwnS (w : World) (e : TypeId) (v : Value) (xs : List Value) : Prop :=
  (v = .slice none 0 0 ∧ xs = []) ∨
  ∃ g cap cur, v = .slice (some ⟨g, 0, none⟩) xs.length cap ∧ RowL w g e cur ∧ xs.length ≤ cap ∧ cap ≤ maxLen ∧ cur.length = cap ∧ cur.take xs.length = xs

theorem ownS_nil (w : World) (e : TypeId) : OwnS w e (.slice none 0 0) [] := .inl ⟨rfl, rfl⟩

theorem OwnS.of_block {w w' : World} {e : TypeId} {v : Value} {xs : List Value} (h : OwnS w e v xs) (hk : ∀ g, v.ownBlock = some g → w'.heap[g]? = w.heap[g]?) : OwnS w' e v xs := by
  rcases h with h | ⟨g, cap, cur, rfl, hr, h1, h2, h3, h4⟩
  · exact .inl h
  · exact .inr ⟨g, cap, cur, rfl, hr.of_block (hk g rfl), h1, h2, h3, h4⟩
theorem OwnS.lt {w : World} {e : TypeId} {v : Value} {xs : List Value} (h : OwnS w e v xs) {g : Nat} (hg : v.ownBlock = some g) : g < w.heap.size := by
  rcases h with ⟨rfl, _⟩ | ⟨g', cap, cur, rfl, hr, _⟩
  · simp [Value.ownBlock] at hg
  · simp [Value.ownBlock] at hg; subst hg; exact hr.lt
theorem OwnS.below {w w' : World} {B : Nat} {e : TypeId} {v : Value} {xs : List Value} (h : OwnS w e v xs) (hb : Below B w w') (hg : ∀ g, v.ownBlock = some g → g < B) : OwnS w' e v xs :=
  h.of_block (fun g hv => hb.block g (hg g hv))
theorem OwnS.later {w w' : World} {e : TypeId} {v : Value} {xs : List Value} (h : OwnS w e v xs) (hb : Below w.heap.size w w') : OwnS w' e v xs :=
  h.below hb (fun _ hv => h.lt hv)
theorem OwnS.alloc {w : World} {e : TypeId} {v : Value} {xs : List Value} (h : OwnS w e v xs) (o : Obj) : OwnS (w.alloc o) e v xs :=
  h.of_block (fun _ hv => blk_alloc_lt _ _ _ (h.lt hv))
theorem OwnS.drew {w : World} {e : TypeId} {v : Value} {xs : List Value} (h : OwnS w e v xs) : OwnS w.drew e v xs := h
theorem OwnS.shape {w : World} {e : TypeId} {v : Value} {xs : List Value} (h : OwnS w e v xs) : ∃ a c, v = .slice a xs.length c := by
  rcases h with ⟨rfl, rfl⟩ | ⟨g, cap, cur, rfl, _⟩
  · exact ⟨none, 0, rfl⟩
  · exact ⟨_, _, rfl⟩
theorem OwnS.open' {w : World} {e : TypeId} {v : Value} {xs : List Value} (h : OwnS w e v xs) (hx : 0 < xs.length) : ∃ g cap cur, v = .slice (some ⟨g, 0, none⟩) xs.length cap ∧ RowL w g e cur ∧ xs.length ≤ cap ∧ cap ≤ maxLen ∧ cur.length = cap ∧ cur.take xs.length = xs := by
  rcases h with ⟨_, rfl⟩ | h
  · simp at hx
  · exact h
theorem take_at {α : Type} {l xs : List α} {i : Nat} {v : α} (h : l.take xs.length = xs) (hi : xs[i]? = some v) : l[i]? = some v := by
  have hlt : i < xs.length := (List.getElem?_eq_some_iff.1 hi).1
  have h2 : (l.take xs.length)[i]? = some v := by rw [h]; exact hi
  rw [List.getElem?_take, if_pos hlt] at h2
  exact h2

theorem OwnS.ne_type {w : World} {e t : TypeId} {v : Value} {xs L : List Value} {b : Nat} (h : OwnS w e v xs) (hr : RowL w b t L) (ht : t ≠ e) : v.ownBlock ≠ some b := by
  intro hv
  rcases h with ⟨rfl, _⟩ | ⟨g, cap, cur, rfl, hg, _⟩
  · simp [Value.ownBlock] at hv
  · simp [Value.ownBlock] at hv
    subst hv
    exact ht (hr.unique hg).1
/- A full row, handed on as a slice. -/
theorem RowL.own {w : World} {g : Nat} {e : TypeId} {L : List Value} (h : RowL w g e L) (hm : L.length ≤ maxLen) : OwnS w e (.slice (some ⟨g, 0, none⟩) L.length L.length) L :=
  .inr ⟨g, L.length, L, rfl, h, Nat.le_refl _, hm, rfl, List.take_length⟩

theorem take_snoc {α : Type} {l : List α} {k : Nat} {v : α} (h : l[k]? = some v) : l.take k ++ [v] = l.take (k + 1) := by
  rw [List.take_add_one, h]; rfl
theorem own_news {w : World} {g K : Nat} {e : TypeId} {cur xs : List Value} (h : RowL w g e cur) (ht : cur.take K = xs) (hl : xs.length = K) : ∀ j u, xs[j]? = some u → w.cell? ((⟨g, 0, none⟩ : Addr).add j) = some u := by
  intro j u hu
  rw [Addr.add_lit]
  have := h.cell j u (take_at (by rw [hl]; exact ht) hu)
  simpa using this
/- What append leaves. -/
def AppTo (w w' : World) (e : TypeId) (v v' : Value) (xs news : List Value) : Prop :=
  (∃ g c cur, v = .slice (some ⟨g, 0, none⟩) xs.length c ∧ RowL w g e cur ∧ cur.length = c ∧ cur.take xs.length = xs ∧ xs.length + news.length ≤ c ∧ c ≤ maxLen ∧
      v' = .slice (some ⟨g, 0, none⟩) (xs.length + news.length) c ∧ w' = w.setRow g (xs ++ news ++ cur.drop (xs.length + news.length)).toArray) ∨
  (∃ c cells, v' = .slice (some ⟨w.heap.size, 0, none⟩) (xs.length + news.length) c ∧ w' = w.drew.alloc (.cells (xs ++ news ++ cells).toArray e) ∧ xs.length + news.length + cells.length = c ∧ c ≤ maxLen) ∨
  (v = .slice none 0 0 ∧ xs = [] ∧ news = [] ∧ v' = v ∧ w' = w)

theorem rowL_setRow {w : World} {g : Nat} {e : TypeId} {L : List Value} (h : RowL w g e L) (M : List Value) : RowL (w.setRow g M.toArray) g e M := setRow_heap w g _ _ e _ h

theorem AppTo.own {w w' : World} {e : TypeId} {v v' : Value} {xs news : List Value} (h : AppTo w w' e v v' xs news) : OwnS w' e v' (xs ++ news) := by
  rcases h with ⟨g, c, cur, rfl, hr, hl, ht, hroom, hm, rfl, rfl⟩ | ⟨c, cells, rfl, rfl, hc, hm⟩ | ⟨rfl, rfl, rfl, rfl, rfl⟩
  · refine .inr ⟨g, c, _, by simp, rowL_setRow hr _, by simpa using hroom, hm, by simp; omega, ?_⟩
    rw [List.take_left]
  · refine .inr ⟨w.heap.size, c, xs ++ news ++ cells, by simp, blk_alloc_new w.drew _, by simp; omega, hm, by simp; omega, ?_⟩
    rw [List.take_left]
  · exact .inl ⟨rfl, rfl⟩
theorem AppTo.grown {w w' : World} {e : TypeId} {v v' : Value} {xs news : List Value} (h : AppTo w w' e v v' xs news) : w.grownBy w' v.ownBlock := by
  rcases h with ⟨g, c, cur, rfl, hr, hl, ht, hroom, hm, rfl, rfl⟩ | ⟨c, cells, rfl, rfl, hc, hm⟩ | ⟨rfl, rfl, rfl, rfl, rfl⟩
  · exact ⟨rfl, rfl, rfl, by simp [World.setRow], fun k _ hk => setRow_other w g k _ (fun e => hk (by simp [Value.ownBlock, e]))⟩
  · exact ⟨rfl, rfl, rfl, by simp, fun k hk _ => blk_alloc_lt w.drew _ k hk⟩
  · exact World.grownBy.refl _ _
theorem AppTo.below {w0 w w' : World} {B : Nat} {e : TypeId} {v v' : Value} {xs news : List Value} (h : AppTo w w' e v v' xs news) (hb : Below B w0 w) (hB : B ≤ w.heap.size) (hv : ∀ k, v.ownBlock = some k → B ≤ k) : Below B w0 w' :=
  hb.grown h.grown hB hv
theorem AppTo.block {w w' : World} {e : TypeId} {v v' : Value} {xs news : List Value} (h : AppTo w w' e v v' xs news) : v'.ownBlock = v.ownBlock ∨ v'.ownBlock = some w.heap.size := by
  rcases h with ⟨g, c, cur, rfl, hr, hl, ht, hroom, hm, rfl, rfl⟩ | ⟨c, cells, rfl, rfl, hc, hm⟩ | ⟨rfl, rfl, rfl, rfl, rfl⟩
  · exact .inl rfl
  · exact .inr rfl
  · exact .inl rfl
theorem AppTo.size {w w' : World} {e : TypeId} {v v' : Value} {xs news : List Value} (h : AppTo w w' e v v' xs news) : w.heap.size ≤ w'.heap.size := h.grown.size
theorem AppTo.from {w w' : World} {B : Nat} {e : TypeId} {v v' : Value} {xs news : List Value} (h : AppTo w w' e v v' xs news) (hB : B ≤ w.heap.size) (hv : ∀ k, v.ownBlock = some k → B ≤ k) : ∀ k, v'.ownBlock = some k → B ≤ k := by
  intro k hk
  rcases h.block with e | e
  · exact hv k (e ▸ hk)
  · rw [e] at hk; simp at hk; omega
/- Another row stays; the row itself keeps its first cells. -/
theorem AppTo.other {w w' : World} {e t : TypeId} {v v' : Value} {xs news L : List Value} {g : Nat} (h : AppTo w w' e v v' xs news) (hr : RowL w g t L) (hne : v.ownBlock ≠ some g) : RowL w' g t L :=
  hr.of_block (h.grown.block g hr.lt (fun e => hne e.symm))
theorem AppTo.old {w w' : World} {e : TypeId} {v v' : Value} {xs news cur : List Value} {g : Nat} (h : AppTo w w' e v v' xs news) (hv : v.ownBlock = some g) (hr : RowL w g e cur) : ∃ cur', RowL w' g e cur' ∧ cur'.length = cur.length ∧ cur'.take xs.length = cur.take xs.length := by
  rcases h with ⟨g', c, cur', rfl, hr', hl, ht, hroom, hm, rfl, rfl⟩ | ⟨c, cells, rfl, rfl, hc, hm⟩ | ⟨rfl, rfl, rfl, rfl, rfl⟩
  · simp [Value.ownBlock] at hv; subst hv
    obtain ⟨_, rfl⟩ := hr.unique hr'
    refine ⟨_, rowL_setRow hr' _, by simp; omega, ?_⟩
    rw [List.append_assoc, List.take_left, ht]
  · exact ⟨cur, hr.drew.alloc _, rfl, rfl⟩
  · simp [Value.ownBlock] at hv
theorem AppTo.other' {w w' : World} {e e' : TypeId} {v v' u : Value} {xs news ys : List Value} (h : AppTo w w' e v v' xs news) (ho : OwnS w e' u ys) (hne : ∀ g, u.ownBlock = some g → v.ownBlock ≠ some g) : OwnS w' e' u ys :=
  ho.of_block (fun g hg => h.grown.block g (ho.lt hg) (fun e => hne g hg e.symm))

section
variable {P : Program} (w : World)

theorem run_app (t ty e : TypeId) (i : TypeInfo) (z : Value) (bytes : Nat) (ht : P.underlying t = some (.slice e)) (hi : P.info? e = some i) (hz : i.zero = some z) (hsize : i.size = 1) (hby : i.bytes = bytes) (hzs : z.cells.size = 1)
    (v : Value) (xs : List Value) (hown : OwnS w e v xs) (a : Addr) (m c : Nat) (news : List Value) (hl : news.length = m) (hnews : ∀ j u, news[j]? = some u → w.cell? (a.add j) = some u) (h1 : ∀ u ∈ news, u.oneCell' = true)
    (h63 : xs.length + m ≤ maxLen) (hbytes : (xs.length + m) * bytes ≤ 140737488355328) :
    ∃ v' w', (Builtin.append_ #[t, t] ty #[v, .slice (some a) m c]).run P w = .ok v' w' ∧ AppTo w w' e v v' xs news := by
  subst hl
  subst hby
  have hsmall : xs.length + news.length ≤ 9223372036854775807 := by simp only [maxLen] at h63; omega
  have hl1 : news.length = news.length * i.size := by rw [hsize, Nat.mul_one]
  rcases hown with ⟨rfl, rfl⟩ | ⟨g, cap, cur, rfl, hg, hnc, hcm, hcs, htake⟩
  · by_cases hm : news.length = 0
    · have hn : news = [] := List.eq_nil_of_length_eq_zero hm
      subst hn
      refine ⟨.slice none 0 0, w, ?_, .inr (.inr ⟨rfl, rfl, rfl, rfl, rfl⟩)⟩
      simp [Builtin.append_, run_underlying ht, sizeOf, typeInfo, hi, Builtin.lenOf, Builtin.firstCells, loadCells, loadCellsFrom]
    · have hr := run_append_nil (P := P) w t ty e i z ht hi hz a news.length c news hl1 hnews (by omega) (by simp at hsmall; omega) (by simp at hbytes; omega)
      refine ⟨_, _, hr, .inr (.inl ⟨grownCap w news.length 0 e, (Builtin.zeroCells z.cells (grownCap w news.length 0 e - news.length)).toList, by simp, by congr 2; apply Array.ext'; simp, ?_, ?_⟩)⟩
      · have hge := grownCap_ge w news.length 0 e
        simp [size_zeroCells, hzs]; omega
      · exact grownCap_le_maxLen w _ 0 e (by simpa using h63)
  · by_cases hroom : xs.length + news.length ≤ cap
    · have hr := run_append_room (P := P) w t ty e i ht hi g xs.length cap cur.toArray hg a news.length c news hl1 hnews h1 hroom (by rw [hsize]; simp; omega)
      refine ⟨_, _, hr, .inl ⟨g, cap, cur, rfl, hg, hcs, htake, hroom, hcm, rfl, ?_⟩⟩
      simp [hsize, htake]
    · have holds : ∀ j u, xs[j]? = some u → w.cell? ((⟨g, 0, none⟩ : Addr).add j) = some u := by
        intro j u hu
        rw [Addr.add_lit]
        have := hg.cell j u (take_at htake hu)
        simpa using this
      have hr := run_append_grow (P := P) w t ty e i z ht hi hz ⟨g, 0, none⟩ xs.length cap xs (by rw [hsize, Nat.mul_one]) holds a news.length c news hl1 hnews (by omega) (by omega) (growslice_fits (by omega) hbytes)
      refine ⟨_, _, hr, .inr (.inl ⟨grownCap w (xs.length + news.length) cap e, (Builtin.zeroCells z.cells (grownCap w (xs.length + news.length) cap e - (xs.length + news.length))).toList, rfl, by congr 2; apply Array.ext'; simp, ?_, ?_⟩)⟩
      · have hge := grownCap_ge w (xs.length + news.length) cap e
        simp [size_zeroCells, hzs]; omega
      · exact grownCap_le_maxLen w _ cap e h63

theorem wp_app {o : Oper} {a : Act} {K : Act → World → Prop} {Q : Exit → Act → World → Prop} (s x : Operand) (t : TypeId)
    (ho : o.op = .call { callee := .builtin .append, args := #[s, x], argTypes := #[t, t] })
    (e : TypeId) (i : TypeInfo) (z : Value) (bytes : Nat) (ht : P.underlying t = some (.slice e)) (hi : P.info? e = some i) (hz : i.zero = some z) (hsize : i.size = 1) (hby : i.bytes = bytes) (hzs : z.cells.size = 1)
    (v : Value) (xs : List Value) (hs : a.eval s = v) (hown : OwnS w e v xs)
    (ad : Addr) (m c : Nat) (news : List Value) (hx : a.eval x = .slice (some ad) m c) (hl : news.length = m) (hnews : ∀ j u, news[j]? = some u → w.cell? (ad.add j) = some u) (h1 : ∀ u ∈ news, u.oneCell' = true)
    (h63 : xs.length + m ≤ maxLen) (hbytes : (xs.length + m) * bytes ≤ 140737488355328)
    (h : ∀ v' w', AppTo w w' e v v' xs news → K (a.put o.dst v') w') : o.wp P a w K Q := by
  obtain ⟨v', w', hr, h2⟩ := run_app (P := P) w t o.type e i z bytes ht hi hz hsize hby hzs v xs hown ad m c news hl hnews h1 h63 hbytes
  unfold Oper.wp execOp
  simp only [ho, resolve, invoke, builtin, Sem.run_bind, Sem.run_pure, Result.andThen_ok, List.map_toArray, List.map_cons, List.map_nil, hs, hx, hr]
  exact h v' w' h2

theorem wpList_app {ops : Array Oper} {rest : List Oper} {o : Oper} {a : Act} {Q : Exit → Act → World → Prop} (hgd : o.guard = none) (s x : Operand) (t : TypeId)
    (ho : o.op = .call { callee := .builtin .append, args := #[s, x], argTypes := #[t, t] })
    (e : TypeId) (i : TypeInfo) (z : Value) (bytes : Nat) (ht : P.underlying t = some (.slice e)) (hi : P.info? e = some i) (hz : i.zero = some z) (hsize : i.size = 1) (hby : i.bytes = bytes) (hzs : z.cells.size = 1)
    (v : Value) (xs : List Value) (hs : a.eval s = v) (hown : OwnS w e v xs)
    (ad : Addr) (m c : Nat) (news : List Value) (hx : a.eval x = .slice (some ad) m c) (hl : news.length = m) (hnews : ∀ j u, news[j]? = some u → w.cell? (ad.add j) = some u) (h1 : ∀ u ∈ news, u.oneCell' = true)
    (h63 : xs.length + m ≤ maxLen) (hbytes : (xs.length + m) * bytes ≤ 140737488355328)
    (h : ∀ v' w', AppTo w w' e v v' xs news → wpList P ops Q rest (a.put o.dst v') w') : wpList P ops Q (o :: rest) a w :=
  wpList_plain hgd fun _ hK => wp_app w s x t ho e i z bytes ht hi hz hsize hby hzs v xs hs hown ad m c news hx hl hnews h1 h63 hbytes fun v' w' h2 => hK _ _ (h v' w' h2)

theorem wpList_mk {ops : Array Oper} {rest : List Oper} {o : Oper} {a : Act} {Q : Exit → Act → World → Prop}
    (hg : o.guard = none) (l c : Operand) (t : TypeId) (hop : o.op = Op.makeSlice t l c)
    (e : TypeId) (i : TypeInfo) (z : Value) (ht : P.underlying t = some (.slice e)) (hi : P.info? e = some i) (hz : i.zero = some z) (hsize : i.size = 1) (hz1 : z.cells = #[z])
    (kl kc : IntKind) (m n : Nat) (hl : a.eval l = .int kl (m : Int)) (hc : a.eval c = .int kc (n : Int)) (hmn : m ≤ n) (hbytes : i.bytes * n ≤ 281474976710656) (h63 : n ≤ 9223372036854775807)
    (hK : wpList P ops Q rest (a.put o.dst (.slice (some ⟨w.heap.size, 0, none⟩) m n)) (w.alloc (.cells (madeCells #[z] n) e))) :
    wpList P ops Q (o :: rest) a w := by
  refine wpList_plain hg fun K hK' => ?_
  have hb' : (i.bytes : Int) * (n : Int) ≤ 281474976710656 := by
    have h : ((i.bytes * n : Nat) : Int) ≤ 281474976710656 := by omega
    rwa [Int.natCast_mul] at h
  have hr := run_make (P := P) w t e i z ht hi hz kl kc m n (by omega) (by omega) hb' (by omega)
  simp only [Int.toNat_natCast, hsize, Nat.mul_one, hz1] at hr
  unfold Oper.wp
  simp [execOp, hop, hl, hc, hr, Result.andThen]
  exact hK' _ _ hK
/- A row that was made with nothing in it yet. -/
theorem ownS_made (w : World) (e : TypeId) (z : Value) (n : Nat) (hm : n ≤ maxLen) : OwnS (w.alloc (.cells (madeCells #[z] n) e)) e (.slice (some ⟨w.heap.size, 0, none⟩) 0 n) [] :=
  .inr ⟨w.heap.size, n, _, rfl, rowL_made w z n e, by simp, hm, by simp, by simp⟩

/- append into a row that is filled from its head on, and has room. -/
theorem fill_append {α : Type} (L : List α) (z : α) (n m : Nat) (h : n + m ≤ L.length) : (fill L z n).take n ++ (L.drop n).take m ++ (fill L z n).drop (n + m) = fill L z (n + m) := by
  unfold fill
  have e1 : (L.take n ++ List.replicate (L.length - n) z).take n = L.take n := by
    have : (L.take n).length = n := by simp; omega
    rw [List.take_append_of_le_length (by omega), List.take_of_length_le (by omega)]
  have e2 : (L.take n ++ List.replicate (L.length - n) z).drop (n + m) = List.replicate (L.length - (n + m)) z := by
    have : (L.take n).length = n := by simp; omega
    rw [List.drop_append, List.drop_of_length_le (by omega), List.nil_append, List.drop_replicate, this]
    congr 1; omega
  rw [e1, e2, List.take_add]

theorem wpList_fill {ops : Array Oper} {rest : List Oper} {o : Oper} {a : Act} {Q : Exit → Act → World → Prop} (hgd : o.guard = none) (s x : Operand) (t : TypeId)
    (ho : o.op = .call { callee := .builtin .append, args := #[s, x], argTypes := #[t, t] })
    (e : TypeId) (i : TypeInfo) (ht : P.underlying t = some (.slice e)) (hi : P.info? e = some i) (hsize : i.size = 1)
    (g n c : Nat) (L : List Value) (z : Value) (hs : a.eval s = .slice (some ⟨g, 0, none⟩) n c) (hL : L.length = c) (hr : RowL w g e (fill L z n))
    (ad : Addr) (m cx : Nat) (news : List Value) (hx : a.eval x = .slice (some ad) m cx) (hl : news.length = m) (hnews : ∀ j u, news[j]? = some u → w.cell? (ad.add j) = some u) (h1 : ∀ u ∈ news, u.oneCell' = true)
    (hd : (L.drop n).take m = news) (hroom : n + m ≤ c)
    (h : ∀ w', RowL w' g e (fill L z (n + m)) → w.grownBy w' (some g) → wpList P ops Q rest (a.put o.dst (.slice (some ⟨g, 0, none⟩) (n + m) c)) w') : wpList P ops Q (o :: rest) a w := by
  refine wpList_plain hgd fun K hK => ?_
  subst hL
  have hfl : (fill L z n).length = L.length := fill_length _ _ _ (by omega)
  have hrun := run_append_room (P := P) w t o.type e i ht hi g n L.length (fill L z n).toArray hr ad m cx news (by rw [hsize, Nat.mul_one]; exact hl) hnews h1 hroom (by rw [hsize]; simp [hfl]; omega)
  unfold Oper.wp execOp
  simp only [ho, resolve, invoke, builtin, Sem.run_bind, Sem.run_pure, Result.andThen_ok, List.map_toArray, List.map_cons, List.map_nil, hs, hx, hrun]
  refine hK _ _ (h _ ?_ ?_)
  · have := rowL_setRow hr ((fill L z n).take n ++ news ++ (fill L z n).drop (n + m))
    rw [← hd, fill_append L z n m hroom] at this
    rw [hsize, hl]
    simpa [fill_append, hd, ← fill_append L z n m hroom] using this
  · exact ⟨rfl, rfl, rfl, by simp [World.setRow], fun k _ hk => setRow_other w g k _ (fun e => hk (by rw [e]))⟩
end

/- All blocks that were there are as they were, but for those of X. -/
structure Kp (X : Nat → Prop) (w w' : World) : Prop where
  os : w'.os = w.os
  tape : w'.tape = w.tape
  output : w'.output = w.output
  size : w.heap.size ≤ w'.heap.size
  block : ∀ k, k < w.heap.size → ¬ X k → w'.heap[k]? = w.heap[k]?
namespace Kp
variable {X : Nat → Prop} {w w' w'' : World}
theorem refl (X : Nat → Prop) (w : World) : Kp X w w := ⟨rfl, rfl, rfl, Nat.le_refl _, fun _ _ _ => rfl⟩
theorem alloc (h : Kp X w w') (o : Obj) : Kp X w (w'.alloc o) :=
  ⟨h.os, h.tape, h.output, by have := h.size; simp; omega, fun k hk hx => (blk_alloc_lt _ _ _ (Nat.lt_of_lt_of_le hk h.size)).trans (h.block k hk hx)⟩
theorem drew (h : Kp X w w') : Kp X w w'.drew := ⟨h.os, h.tape, h.output, h.size, h.block⟩
theorem setCell (h : Kp X w w') {a : Addr} (ha : X a.block ∨ w.heap.size ≤ a.block) (v : Value) : Kp X w (w'.setCell a v) :=
  ⟨h.os, h.tape, h.output, by simpa [World.setCell] using h.size, fun k hk hx => (blk_setCell_other _ _ _ _ (by rintro rfl; rcases ha with h1 | h1; exact hx h1; omega)).trans (h.block k hk hx)⟩
theorem grown {r : Option Nat} (h : Kp X w w') (hg : w'.grownBy w'' r) (hr : ∀ k, r = some k → X k ∨ w.heap.size ≤ k) : Kp X w w'' :=
  ⟨hg.os.trans h.os, hg.tape.trans h.tape, hg.output.trans h.output, Nat.le_trans h.size hg.size, fun k hk hx =>
    (hg.block k (Nat.lt_of_lt_of_le hk h.size) (fun e => by rcases hr k e.symm with h1 | h1; exact hx h1; omega)).trans (h.block k hk hx)⟩
theorem below (h : Kp X w w') (hb : Below w'.heap.size w' w'') : Kp X w w'' :=
  ⟨hb.os.trans h.os, hb.tape.trans h.tape, hb.output.trans h.output, Nat.le_trans h.size hb.size, fun k hk hx => (hb.block k (Nat.lt_of_lt_of_le hk h.size)).trans (h.block k hk hx)⟩
theorem of_below (h : Below w.heap.size w w') : Kp X w w' := (Kp.refl X w).below h
theorem trans (h : Kp X w w') (h' : Kp X w' w'') : Kp X w w'' :=
  ⟨h'.os.trans h.os, h'.tape.trans h.tape, h'.output.trans h.output, Nat.le_trans h.size h'.size, fun k hk hx => (h'.block k (Nat.lt_of_lt_of_le hk h.size) hx).trans (h.block k hk hx)⟩
theorem join {Y : Nat → Prop} (h : Kp X w w') (h' : Kp Y w' w'') (hy : ∀ k, Y k → X k ∨ w.heap.size ≤ k) : Kp X w w'' :=
  ⟨h'.os.trans h.os, h'.tape.trans h.tape, h'.output.trans h.output, Nat.le_trans h.size h'.size, fun k hk hx => (h'.block k (Nat.lt_of_lt_of_le hk h.size) (fun e => by rcases hy k e with h1 | h1; exact hx h1; omega)).trans (h.block k hk hx)⟩
theorem mono {Y : Nat → Prop} (h : Kp X w w') (hxy : ∀ k, X k → Y k) : Kp Y w w' := ⟨h.os, h.tape, h.output, h.size, fun k hk hy => h.block k hk (fun hx => hy (hxy k hx))⟩
theorem row {g : Nat} {t : TypeId} {L : List Value} (h : Kp X w w') (hr : RowL w g t L) (hg : ¬ X g) : RowL w' g t L := hr.of_block (h.block g hr.lt hg)
theorem own {e : TypeId} {v : Value} {xs : List Value} (h : Kp X w w') (ho : OwnS w e v xs) (hg : ∀ g, v.ownBlock = some g → ¬ X g) : OwnS w' e v xs := ho.of_block (fun g hv => h.block g (ho.lt hv) (hg g hv))
theorem toBelow {B : Nat} (h : Kp X w w') (hX : ∀ k, X k → B ≤ k) (hB : B ≤ w.heap.size) : Below B w w' :=
  ⟨h.os, h.tape, h.output, h.size, fun k hk => h.block k (by omega) (fun hx => by have := hX k hx; omega)⟩
end Kp
end Go.Proofs.YtmfpiodlecapiaaDoor
