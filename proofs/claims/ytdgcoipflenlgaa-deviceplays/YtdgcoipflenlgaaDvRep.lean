/- How a device lies in memory: its own block, the rows of what is kept and what is seen, the row of the writes that wait; what a call may turn of it. Nothing is assumed. -/
import Derived.Test.YtdgcoipflenlgaaDvMath
import Derived.Test.YtdgcoipflenlgaaChecked
import Derived.Deep.MidRow
namespace Go.Proofs.Ytdgcoipflenlgaa
open Go.RowKit

/-- Nothing that was there turns, but in blocks of F. -/
structure Kp (F : Nat → Prop) (w w' : World) : Prop where
  os : w'.os = w.os
  tape : w'.tape = w.tape
  output : w'.output = w.output
  size : w.heap.size ≤ w'.heap.size
  block : ∀ k, k < w.heap.size → ¬ F k → w'.heap[k]? = w.heap[k]?
theorem Kp.refl (F : Nat → Prop) (w : World) : Kp F w w := ⟨rfl, rfl, rfl, Nat.le_refl _, fun _ _ _ => rfl⟩
theorem Kp.trans {F : Nat → Prop} {a b c : World} (h : Kp F a b) (k : Kp F b c) : Kp F a c :=
  ⟨k.os.trans h.os, k.tape.trans h.tape, k.output.trans h.output, Nat.le_trans h.size k.size, fun i hi hF => (k.block i (Nat.lt_of_lt_of_le hi h.size) hF).trans (h.block i hi hF)⟩
/-- The second may turn what is new as well. -/
theorem Kp.step {F G : Nat → Prop} {a b c : World} (h : Kp F a b) (k : Kp G b c) (hG : ∀ j, G j → F j ∨ a.heap.size ≤ j) : Kp F a c :=
  ⟨k.os.trans h.os, k.tape.trans h.tape, k.output.trans h.output, Nat.le_trans h.size k.size, fun i hi hF => (k.block i (Nat.lt_of_lt_of_le hi h.size) (fun e => by rcases hG i e with e | e; exact hF e; omega)).trans (h.block i hi hF)⟩
theorem Kp.mono {F G : Nat → Prop} {a b : World} (h : Kp F a b) (hG : ∀ j, F j → G j) : Kp G a b := ⟨h.os, h.tape, h.output, h.size, fun i hi hF => h.block i hi fun e => hF (hG i e)⟩
theorem Kp.below {F : Nat → Prop} {B : Nat} {a b : World} (h : Kp F a b) (hF : ∀ j, F j → B ≤ j) (hB : B ≤ a.heap.size) : Below B a b :=
  ⟨h.os, h.tape, h.output, h.size, fun k hk => h.block k (by omega) fun e => by have := hF k e; omega⟩
theorem Kp.ofBelow {F : Nat → Prop} {a b : World} (h : Below a.heap.size a b) : Kp F a b := ⟨h.os, h.tape, h.output, h.size, fun k hk _ => h.block k hk⟩
theorem Kp.grown {F : Nat → Prop} {a b : World} {row : Option Nat} (h : a.grownBy b row) (hr : ∀ k, row = some k → F k ∨ a.heap.size ≤ k) : Kp F a b :=
  ⟨h.os, h.tape, h.output, h.size, fun k hk hF => h.block k hk fun e => by rcases hr k e.symm with e | e; exact hF e; omega⟩
theorem Kp.alloc (F : Nat → Prop) (w : World) (o : Obj) : Kp F w (w.alloc o) := Kp.ofBelow ((Below.refl _ _).alloc (Nat.le_refl _) _)
theorem Kp.drew (F : Nat → Prop) (w : World) : Kp F w w.drew := Kp.ofBelow ((Below.refl _ _).drew)
theorem Kp.setCell {F : Nat → Prop} (w : World) (g o : Nat) (u : Value) (h : F g) : Kp F w (w.setCell ⟨g, o, none⟩ u) := Kp.grown (grown_setCell w g o u) fun k hk => by injection hk with hk; subst hk; exact .inl h
theorem grown_setCells (g : Nat) : ∀ (vs : List Value) (o : Nat) (w : World), w.grownBy (w.setCells g o vs) (some g)
  | [], _, w => grown_refl w _
  | v :: r, o, w => (grown_setCell w g o v).trans (grown_setCells g r (o + 1) _)
theorem Kp.setCells {F : Nat → Prop} (w : World) (g o : Nat) (vs : List Value) (h : F g) : Kp F w (w.setCells g o vs) := Kp.grown (grown_setCells g vs o w) fun k hk => by injection hk with hk; subst hk; exact .inl h

/-- n rows of sixteen bytes in block k. -/
structure Rows (w : World) (k n : Nat) (K : Bl) : Prop where
  lt : k < w.heap.size
  row : ∀ i, i < n → w.rangeAt k (i * 16) (bs (K i))
  there : w.there k 0 (16 * n)
theorem rangeAt_keep {w w' : World} {b o : Nat} {cs : List Value} (h : w.rangeAt b o cs) (hk : w'.heap[b]? = w.heap[b]?) : w'.rangeAt b o cs :=
  fun j v hv => (World.cell?_of_block (a := ⟨b, o + j, none⟩) hk).trans (h j v hv)
theorem frozen_of_block {w w' : World} {b o : Nat} (h : w'.heap[b]? = w.heap[b]?) : w'.frozen? ⟨b, o, none⟩ = w.frozen? ⟨b, o, none⟩ := by
  unfold World.frozen?
  simp only [h]
theorem there_keep {w w' : World} {b o n : Nat} (h : w.there b o n) (hk : w'.heap[b]? = w.heap[b]?) : w'.there b o n := fun j hj =>
  ⟨by rw [World.cell?_of_block (a := ⟨b, o + j, none⟩) hk]; exact (h j hj).1, by rw [frozen_of_block hk]; exact (h j hj).2⟩
theorem there_part {w : World} {b n : Nat} (h : w.there b 0 (16 * n)) {i : Nat} (hi : i < n) : w.there b (i * 16) 16 := fun j hj => by
  have := h (i * 16 + j) (by omega)
  rwa [Nat.zero_add] at this
theorem Rows.keep {w w' : World} {k n : Nat} {K : Bl} (h : Rows w k n K) (hs : w.heap.size ≤ w'.heap.size) (hk : w'.heap[k]? = w.heap[k]?) : Rows w' k n K :=
  ⟨Nat.lt_of_lt_of_le h.lt hs, fun i hi => rangeAt_keep (h.row i hi) hk, there_keep h.there hk⟩
theorem Rows.same {w : World} {k n : Nat} {K K' : Bl} (h : Rows w k n K) (e : ∀ i, i < n → K' i = K i) : Rows w k n K' := ⟨h.lt, fun i hi => by rw [e i hi]; exact h.row i hi, h.there⟩
theorem Rows.put {w : World} {k n : Nat} {K : Bl} (h : Rows w k n K) (hK : ∀ i, (K i).length = 16) {i : Nat} (hi : i < n) {b : List UInt8} (hb : b.length = 16) : Rows (w.setCells k (i * 16) (bs b)) k n (upd K i b) := by
  refine ⟨by simpa using Nat.lt_of_lt_of_le h.lt (grown_setCells k (bs b) (i * 16) w).size, fun j hj => ?_, World.there_setCells h.there _ _ _⟩
  by_cases e : j = i
  · subst e
    rw [upd_same]
    exact World.rangeAt_setCells_same _ _ _ _ (by rw [bs_len, hb]; exact there_part h.there hi)
  · rw [upd_other _ _ e]
    exact World.rangeAt_setCells_apart (h.row j hj) _ _ _ (.inr (by rw [bs_len, bs_len, hb, hK]; omega))
theorem Rows.other {w : World} {k n : Nat} {K : Bl} (h : Rows w k n K) {b : Nat} (hb : k ≠ b) (o : Nat) (vs : List Value) : Rows (w.setCells b o vs) k n K :=
  h.keep (grown_setCells b vs o w).size ((grown_setCells b vs o w).block k h.lt fun e => hb (by injection e with e))

/-- A stretch of a block written. -/
theorem Blk.setCells {g : Nat} {t : TypeId} : ∀ (vs : List Value) (o : Nat) (w : World) (cs : Array Value), Blk w g t cs → o + vs.length ≤ cs.size →
    ∃ cs' : Array Value, Blk (w.setCells g o vs) g t cs' ∧ cs'.toList = cs.toList.take o ++ vs ++ cs.toList.drop (o + vs.length)
  | [], o, w, cs, h, _ => ⟨cs, h, by simp⟩
  | v :: r, o, w, cs, h, hl => by
    simp only [List.length_cons] at hl
    obtain ⟨cs', h1, h2⟩ := Blk.setCells r (o + 1) (w.setCell ⟨g, o, none⟩ v) (cs.setIfInBounds o v) (h.store o v) (by simp; omega)
    refine ⟨cs', h1, ?_⟩
    have hlt : o < cs.toList.length := by simpa using by omega
    rw [h2, Array.toList_setIfInBounds, List.take_succ_eq_append_getElem (by simpa using hlt), List.take_set_of_le (Nat.le_refl _), List.getElem_set_self, List.drop_set_of_lt (by omega)]
    simp [Nat.add_assoc, Nat.add_comm 1]
theorem Blk.setAll {g : Nat} {t : TypeId} {w : World} {cs : Array Value} (h : Blk w g t cs) (vs : List Value) (hl : vs.length = cs.size) : Blk (w.setCells g 0 vs) g t vs.toArray := by
  obtain ⟨cs', h1, h2⟩ := Blk.setCells vs 0 w cs h (by omega)
  have : cs' = vs.toArray := by
    apply Array.toList_inj.1
    rw [h2, List.drop_eq_nil_of_le (by simp; omega)]
    simp
  rwa [this] at h1

/-- The cells of some writes. -/
def wcs (W : Wr) : List Value := W.flatMap fun x => .int .i64 (x.1 : Int) :: bs x.2
theorem wcs_app (a b : Wr) : wcs (a ++ b) = wcs a ++ wcs b := by simp [wcs]
theorem wcs_one (i : Nat) (b : List UInt8) : wcs [(i, b)] = .int .i64 (i : Int) :: bs b := by simp [wcs]
theorem wcs_len (W : Wr) (h : ∀ x ∈ W, x.2.length = 16) : (wcs W).length = W.length * 17 := by
  induction W with
  | nil => rfl
  | cons x r ih =>
    have h1 := h x (by simp)
    have h2 := ih fun y hy => h y (by simp [hy])
    show (.int .i64 (x.1 : Int) :: bs x.2 ++ wcs r).length = _
    simp [h2, bs_len, h1]
    omega
theorem wcs_cell (W : Wr) : ∀ u ∈ wcs W, u.oneCell' = true := by
  intro u hu
  simp only [wcs, List.mem_flatMap] at hu
  obtain ⟨x, _, hu⟩ := hu
  rcases List.mem_cons.1 hu with rfl | hu
  · rfl
  · exact bs_one _ u hu
theorem wcs_at (W : Wr) (h : ∀ x ∈ W, x.2.length = 16) {j : Nat} (hj : j < W.length) : ∀ t u, (.int .i64 (W[j].1 : Int) :: bs W[j].2)[t]? = some u → (wcs W)[j * 17 + t]? = some u := by
  intro t u hu
  have e : wcs W = wcs (W.take j) ++ ((.int .i64 (W[j].1 : Int) :: bs W[j].2) ++ wcs (W.drop (j + 1))) := by
    conv => lhs; rw [show W = W.take j ++ (W[j] :: W.drop (j + 1)) by simp]
    rw [wcs_app]
    rfl
  have hl : (wcs (W.take j)).length = j * 17 := by
    rw [wcs_len _ fun x hx => h x (List.mem_of_mem_take hx)]
    simp
    omega
  have ht := (List.getElem?_eq_some_iff.1 hu).1
  rw [e, List.getElem?_append_right (by omega), List.getElem?_append_left (by rw [hl]; simp only [Nat.add_sub_cancel_left]; exact ht)]
  rw [hl, Nat.add_sub_cancel_left]
  exact hu

/-- A device in block g, by what it is; all its blocks are of F. -/
structure DevAt (w : World) (F : Nat → Prop) (g : Nat) (s : St) (k q : Nat) (A : Option Addr) (c : Nat) : Prop where
  blk : Blk w g 60 #[.slice (some ⟨k, 0, none⟩) s.n s.n, .slice (some ⟨q, 0, none⟩) s.n s.n, .slice A s.W.length c, .bool s.lim.isSome, .int .i64 ((s.lim.getD 0 : Nat) : Int)]
  kept : Rows w k s.n s.K
  seen : Rows w q s.n (app s.W s.K)
  wait : w.ownsRow 0 65 17 (.slice A s.W.length c) s.W.length (wcs s.W)
  gk : g ≠ k
  gq : g ≠ q
  kq : k ≠ q
  Ag : ∀ b, A.map (·.block) = some b → b ≠ g ∧ b ≠ k ∧ b ≠ q ∧ F b
  Fg : F g
  Fk : F k
  Fq : F q
  F : ∀ j, F j → j < w.heap.size
  ok : s.ok
def Dev (w : World) (F : Nat → Prop) (g : Nat) (s : St) : Prop := ∃ k q A c, DevAt w F g s k q A c

theorem own_keep {w w' : World} {base : Nat} {e : TypeId} {z n c : Nat} {A : Option Addr} {xs : List Value} (h : w.ownsRow base e z (.slice A n c) n xs) (hk : ∀ b, A.map (·.block) = some b → w'.heap[b]? = w.heap[b]?) : w'.ownsRow base e z (.slice A n c) n xs := by
  refine ⟨h.1, ?_⟩
  rcases h.2 with h2 | ⟨g, cap, cur, hv, hb, hg, h3⟩
  · exact .inl h2
  · injection hv with hA h4 h5
    subst hA
    exact .inr ⟨g, cap, cur, by rw [h5], hb, (hk g rfl).trans hg, h3⟩
theorem own_lt {w : World} {base : Nat} {e : TypeId} {z n c : Nat} {A : Option Addr} {xs : List Value} (h : w.ownsRow base e z (.slice A n c) n xs) (b : Nat) (hb : A.map (·.block) = some b) : b < w.heap.size := by
  rcases h.2 with ⟨hv, _⟩ | ⟨g, cap, cur, hv, _, hg, _⟩
  · injection hv with hA; subst hA; cases hb
  · injection hv with hA
    subst hA
    simp at hb
    subst hb
    exact (Array.getElem?_eq_some_iff.1 hg).1
theorem own_range {w : World} {base : Nat} {e : TypeId} {z n c : Nat} {A : Option Addr} {xs : List Value} (h : w.ownsRow base e z (.slice A n c) n xs) (hn : 0 < n) : ∃ b, A = some ⟨b, 0, none⟩ ∧ b < w.heap.size ∧ w.rangeAt b 0 xs := by
  rcases h.2 with ⟨_, h0⟩ | ⟨g, cap, cur, hv, hb, hg, _, _, _, ht⟩
  · omega
  · injection hv with hA
    refine ⟨g, hA, (Array.getElem?_eq_some_iff.1 hg).1, fun j u hu => ?_⟩
    rw [cell_of_row w g _ cur e (0, 0) hg, Nat.zero_add]
    rw [← ht, List.getElem?_take] at hu
    split at hu
    · simpa using hu
    · cases hu

theorem Dev.keep {w w' : World} {F : Nat → Prop} {g : Nat} {s : St} (h : Dev w F g s) (hs : w.heap.size ≤ w'.heap.size) (hk : ∀ j, F j → w'.heap[j]? = w.heap[j]?) : Dev w' F g s := by
  obtain ⟨k, q, A, c, h⟩ := h
  exact ⟨k, q, A, c, h.blk.keep (hk g h.Fg), h.kept.keep hs (hk k h.Fk), h.seen.keep hs (hk q h.Fq), own_keep h.wait fun b hb => hk b (h.Ag b hb).2.2.2, h.gk, h.gq, h.kq, h.Ag, h.Fg, h.Fk, h.Fq, fun j hj => Nat.lt_of_lt_of_le (h.F j hj) hs, h.ok⟩
theorem Dev.lt {w : World} {F : Nat → Prop} {g : Nat} {s : St} (h : Dev w F g s) : ∀ j, F j → j < w.heap.size := by
  obtain ⟨k, q, A, c, h⟩ := h
  exact h.F
theorem Dev.ok {w : World} {F : Nat → Prop} {g : Nat} {s : St} (h : Dev w F g s) : s.ok := by
  obtain ⟨k, q, A, c, h⟩ := h
  exact h.ok
/-- Behind what turned nothing that was there. -/
theorem Dev.bel {w w' : World} {F : Nat → Prop} {g : Nat} {s : St} (h : Dev w F g s) (hb : Below w.heap.size w w') : Dev w' F g s := h.keep hb.size fun j hj => hb.block j (h.lt j hj)
/-- Behind what turned another's blocks alone. -/
theorem Dev.kp {w w' : World} {F G : Nat → Prop} {g : Nat} {s : St} (h : Dev w F g s) (hk : Kp G w w') (hap : ∀ j, F j → ¬ G j) : Dev w' F g s := h.keep hk.size fun j hj => hk.block j (h.lt j hj) (hap j hj)

/-- What a call leaves of a device. -/
def Left (w w' : World) (F : Nat → Prop) (g : Nat) (s : St) : Prop := ∃ F' : Nat → Prop, Dev w' F' g s ∧ Kp F w w' ∧ ∀ j, F' j → F j ∨ w.heap.size ≤ j
end Go.Proofs.Ytdgcoipflenlgaa
