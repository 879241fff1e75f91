/- Two devices beside each other; an operation of a script in a block of its own. -/
import Derived.Test.YtdgcoipflenlgaaFrameO
namespace Go.Proofs.Ytdgcoipflenlgaa
open Go.RowKit

/-- Two devices, each with blocks of its own, made behind w. -/
def Pair (w wr : World) (g e : Nat) (s t : St) : Prop := ∃ F G : Nat → Prop, Dev wr F g s ∧ Dev wr G e t ∧ (∀ j, F j → ¬ G j) ∧ (∀ j, F j → w.heap.size ≤ j) ∧ (∀ j, G j → w.heap.size ≤ j) ∧ Below w.heap.size w wr
section
variable {w wr : World} {g e : Nat} {s t : St}
theorem Pair.bel (h : Pair w wr g e s t) {wr' : World} (hb : Below wr.heap.size wr wr') : Pair w wr' g e s t := by
  obtain ⟨F, G, h1, h2, h3, h4, h5, h6⟩ := h
  exact ⟨F, G, h1.bel hb, h2.bel hb, h3, h4, h5, h6.trans (hb.mono h6.size)⟩
theorem Pair.below (h : Pair w wr g e s t) : Below w.heap.size w wr := by
  obtain ⟨F, G, h1, h2, h3, h4, h5, h6⟩ := h
  exact h6
theorem Pair.one (h : Pair w wr g e s t) : ∃ F, Dev wr F g s ∧ (∀ j, F j → w.heap.size ≤ j) ∧ ∀ wr' s', Left wr wr' F g s' → Pair w wr' g e s' t := by
  obtain ⟨F, G, h1, h2, h3, h4, h5, h6⟩ := h
  refine ⟨F, h1, h4, fun wr' s' hL => ?_⟩
  obtain ⟨F', hd, hk, hF'⟩ := hL
  refine ⟨F', G, hd, h2.kp hk (fun j hj hf => h3 j hf hj), fun j hj hg => ?_, fun j hj => ?_, h5, h6.trans (hk.below h4 h6.size)⟩
  · rcases hF' j hj with e | e
    · exact h3 j e hg
    · have := h2.lt j hg; omega
  · rcases hF' j hj with e | e
    · exact h4 j e
    · exact Nat.le_trans h6.size e
theorem Pair.two (h : Pair w wr g e s t) : ∃ G, Dev wr G e t ∧ (∀ j, G j → w.heap.size ≤ j) ∧ ∀ wr' t', Left wr wr' G e t' → Pair w wr' g e s t' := by
  obtain ⟨F, G, h1, h2, h3, h4, h5, h6⟩ := h
  refine ⟨G, h2, h5, fun wr' t' hL => ?_⟩
  obtain ⟨G', hd, hk, hG'⟩ := hL
  refine ⟨F, G', h1.kp hk (fun j hj hf => h3 j hj hf), hd, fun j hj hg => ?_, h4, fun j hj => ?_, h6.trans (hk.below h5 h6.size)⟩
  · rcases hG' j hg with e | e
    · exact h3 j hj e
    · have := h1.lt j hj; omega
  · rcases hG' j hj with e | e
    · exact h5 j e
    · exact Nat.le_trans h6.size e
end

/-- The same, and block v is neither's. -/
def PairV (w wr : World) (g e : Nat) (s t : St) (v : Nat) : Prop := ∃ F G : Nat → Prop, Dev wr F g s ∧ Dev wr G e t ∧ (∀ j, F j → ¬ G j) ∧ (∀ j, F j → w.heap.size ≤ j) ∧ (∀ j, G j → w.heap.size ≤ j) ∧ Below w.heap.size w wr ∧ ¬ F v ∧ ¬ G v ∧ v < wr.heap.size ∧ w.heap.size ≤ v
section
variable {w wr : World} {g e v : Nat} {s t : St}
theorem Pair.avoid (h : Pair w wr g e s t) {w2 : World} (hb : Below wr.heap.size wr w2) (hlt : wr.heap.size < w2.heap.size) : PairV w w2 g e s t wr.heap.size := by
  obtain ⟨F, G, h1, h2, h3, h4, h5, h6⟩ := h
  exact ⟨F, G, h1.bel hb, h2.bel hb, h3, h4, h5, h6.trans (hb.mono h6.size), h1.no (Nat.le_refl _), h2.no (Nat.le_refl _), hlt, h6.size⟩
theorem PairV.pair (h : PairV w wr g e s t v) : Pair w wr g e s t := by
  obtain ⟨F, G, h1, h2, h3, h4, h5, h6, _⟩ := h
  exact ⟨F, G, h1, h2, h3, h4, h5, h6⟩
theorem PairV.bel (h : PairV w wr g e s t v) {wr' : World} (hb : Below wr.heap.size wr wr') : PairV w wr' g e s t v := by
  obtain ⟨F, G, h1, h2, h3, h4, h5, h6, h7, h8, h9, h10⟩ := h
  exact ⟨F, G, h1.bel hb, h2.bel hb, h3, h4, h5, h6.trans (hb.mono h6.size), h7, h8, Nat.lt_of_lt_of_le h9 hb.size, h10⟩
theorem PairV.set (h : PairV w wr g e s t v) (o : Nat) (u : Value) : PairV w (wr.setCell ⟨v, o, none⟩ u) g e s t v := by
  obtain ⟨F, G, h1, h2, h3, h4, h5, h6, h7, h8, h9, h10⟩ := h
  have hg := grown_setCell wr v o u
  exact ⟨F, G, h1.keep hg.size fun j hj => hg.block j (h1.lt j hj) (fun e => h7 (by injection e with e; exact e ▸ hj)), h2.keep hg.size fun j hj => hg.block j (h2.lt j hj) (fun e => h8 (by injection e with e; exact e ▸ hj)), h3, h4, h5, h6.grown hg h6.size (fun k hk => by injection hk with hk; omega), h7, h8, Nat.lt_of_lt_of_le h9 hg.size, h10⟩
theorem PairV.one (h : PairV w wr g e s t v) : ∃ F, Dev wr F g s ∧ (∀ j, F j → w.heap.size ≤ j) ∧ ¬ F v ∧ ∀ wr' s', Left wr wr' F g s' → PairV w wr' g e s' t v ∧ wr'.heap[v]? = wr.heap[v]? := by
  obtain ⟨F, G, h1, h2, h3, h4, h5, h6, h7, h8, h9, h10⟩ := h
  refine ⟨F, h1, h4, h7, fun wr' s' hL => ?_⟩
  obtain ⟨F', hd, hk, hF'⟩ := hL
  refine ⟨⟨F', G, hd, h2.kp hk (fun j hj hf => h3 j hf hj), fun j hj hg => ?_, fun j hj => ?_, h5, h6.trans (hk.below h4 h6.size), fun hv => ?_, h8, Nat.lt_of_lt_of_le h9 hk.size, h10⟩, hk.block v h9 h7⟩
  · rcases hF' j hj with e | e
    · exact h3 j e hg
    · have := h2.lt j hg; omega
  · rcases hF' j hj with e | e
    · exact h4 j e
    · exact Nat.le_trans h6.size e
  · rcases hF' v hv with e | e
    · exact h7 e
    · omega
theorem PairV.two (h : PairV w wr g e s t v) : ∃ G, Dev wr G e t ∧ (∀ j, G j → w.heap.size ≤ j) ∧ ¬ G v ∧ ∀ wr' t', Left wr wr' G e t' → PairV w wr' g e s t' v ∧ wr'.heap[v]? = wr.heap[v]? := by
  obtain ⟨F, G, h1, h2, h3, h4, h5, h6, h7, h8, h9, h10⟩ := h
  refine ⟨G, h2, h5, h8, fun wr' t' hL => ?_⟩
  obtain ⟨G', hd, hk, hG'⟩ := hL
  refine ⟨⟨F, G', h1.kp hk (fun j hj hf => h3 j hj hf), hd, fun j hj hg => ?_, h4, fun j hj => ?_, h6.trans (hk.below h5 h6.size), h7, fun hv => ?_, Nat.lt_of_lt_of_le h9 hk.size, h10⟩, hk.block v h9 h8⟩
  · rcases hG' j hg with e | e
    · exact h3 j hj e
    · have := h1.lt j hj; omega
  · rcases hG' j hj with e | e
    · exact h5 j e
    · exact Nat.le_trans h6.size e
  · rcases hG' v hv with e | e
    · exact h8 e
    · omega
end

/-- The variable of a round: an operation's cells in a block of their own. -/
structure VarO (w w1 : World) (o : OpV) : Prop where
  bel : Below w.heap.size w w1
  c0 : w1.cell? ⟨w.heap.size, 0, none⟩ = some (.int .i64 o.kind)
  c1 : w1.cell? ⟨w.heap.size, 1, none⟩ = some (.int .i64 o.i)
  c2 : w1.cell? ⟨w.heap.size, 2, none⟩ = some (.slice o.BA o.Bn o.Bc)
  c3 : w1.cell? ⟨w.heap.size, 3, none⟩ = some (.slice o.KA o.Kn o.Kc)
  lt : w.heap.size < w1.heap.size
theorem z4 (w : World) : (w.alloc (.cells #[.int .i64 0, .int .i64 0, .slice none 0 0, .slice none 0 0] 34)).there w.heap.size 0 4 := by
  have hB := Blk.new w 34 #[.int .i64 0, .int .i64 0, .slice none 0 0, .slice none 0 0]
  refine fun j hj => ⟨?_, hB.frozen _⟩
  rw [hB.cell, Nat.zero_add, Array.getElem?_eq_getElem (by simpa using hj)]
  rfl
theorem VarO.of (w : World) (o : OpV) : VarO w ((w.alloc (.cells #[.int .i64 0, .int .i64 0, .slice none 0 0, .slice none 0 0] 34)).setCells w.heap.size 0 o.cells) o := by
  have hr : ((w.alloc (.cells #[.int .i64 0, .int .i64 0, .slice none 0 0, .slice none 0 0] 34)).setCells w.heap.size 0 o.cells).rangeAt w.heap.size 0 o.cells := World.rangeAt_setCells_same _ _ _ _ (z4 w)
  have hg := grown_setCells w.heap.size o.cells 0 (w.alloc (.cells #[.int .i64 0, .int .i64 0, .slice none 0 0, .slice none 0 0] 34))
  exact ⟨((Below.refl _ _).alloc (Nat.le_refl _) _).grown hg (by simp) (fun k hk => by injection hk with hk; omega), hr 0 _ rfl, hr 1 _ rfl, hr 2 _ rfl, hr 3 _ rfl, Nat.lt_of_lt_of_le (by simp) hg.size⟩
theorem VarO.keep {w w1 w2 : World} {o : OpV} (h : VarO w w1 o) (hb : w2.heap[w.heap.size]? = w1.heap[w.heap.size]?) :
    w2.cell? ⟨w.heap.size, 0, none⟩ = some (.int .i64 o.kind) ∧ w2.cell? ⟨w.heap.size, 1, none⟩ = some (.int .i64 o.i) ∧ w2.cell? ⟨w.heap.size, 2, none⟩ = some (.slice o.BA o.Bn o.Bc) ∧ w2.cell? ⟨w.heap.size, 3, none⟩ = some (.slice o.KA o.Kn o.Kc) :=
  ⟨(World.cell?_of_block hb).trans h.c0, (World.cell?_of_block hb).trans h.c1, (World.cell?_of_block hb).trans h.c2, (World.cell?_of_block hb).trans h.c3⟩
theorem Try.infoO : (Try.prog.info? 34).map (·.size) = some 4 := by kernel_rfl
theorem Try.undO : ∃ d, Try.prog.underlying 34 = some d ∧ d.isRow = true := ⟨_, Try.underlying34, rfl⟩
theorem kmod (i : Int) (m : Nat) (hm : 0 < m) (hm2 : m ≤ 1000) : ∃ k : Nat, k < m ∧ wrap64 ((IntKind.u64.wrap i).tmod (m : Int)) = (k : Int) := by
  have h0 : 0 ≤ IntKind.u64.wrap i := by rw [IntKind.wrap_u64]; omega
  have h1 : (IntKind.u64.wrap i).tmod (m : Int) = (IntKind.u64.wrap i) % (m : Int) := Int.tmod_eq_emod_of_nonneg h0
  have h2 : 0 ≤ (IntKind.u64.wrap i) % (m : Int) := Int.emod_nonneg _ (by omega)
  have h3 : (IntKind.u64.wrap i) % (m : Int) < (m : Int) := Int.emod_lt_of_pos _ (by omega)
  refine ⟨((IntKind.u64.wrap i) % (m : Int)).toNat, by omega, ?_⟩
  rw [h1]
  unfold wrap64
  omega
theorem ocells (o : OpV) : o.cells.toArray.all (·.oneCell') = true := all_oneCell_toArray (fun u hu => by
  simp only [OpV.cells, List.mem_cons, List.not_mem_nil, or_false] at hu
  rcases hu with rfl | rfl | rfl | rfl <;> rfl)
end Go.Proofs.Ytdgcoipflenlgaa
