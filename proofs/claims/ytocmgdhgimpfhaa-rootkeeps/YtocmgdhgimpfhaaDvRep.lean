/- How a device lies in memory: its own block, the rows of what is kept and what is seen, the row of the writes that wait; what a call may turn of it. Nothing is assumed. -/
import Derived.Test.YtocmgdhgimpfhaaDvMath
import Derived.Test.YtocmgdhgimpfhaaMem
namespace Go.Proofs.Ytocmgdhgimpfhaa
open Go.RowKit

/-- n rows of sixteen bytes in block k. -/
structure Rows (w : World) (k n : Nat) (K : Bl) : Prop where
  lt : k < w.heap.size
  row : ∀ i, i < n → w.rangeAt k (i * 16) (bs (K i))
  there : w.there k 0 (16 * n)
theorem there_part {w : World} {b n : Nat} (h : w.there b 0 (16 * n)) {i : Nat} (hi : i < n) : w.there b (i * 16) 16 := fun j hj => by
  have := h (i * 16 + j) (by omega)
  rwa [Nat.zero_add] at this
theorem Rows.keep {w w' : World} {k n : Nat} {K : Bl} (h : Rows w k n K) (hs : w.heap.size ≤ w'.heap.size) (hk : w'.heap[k]? = w.heap[k]?) : Rows w' k n K :=
  ⟨Nat.lt_of_lt_of_le h.lt hs, fun i hi => rangeAt_keep (h.row i hi) hk, there_keep h.there hk⟩
theorem Rows.same {w : World} {k n : Nat} {K K' : Bl} (h : Rows w k n K) (e : ∀ i, i < n → K' i = K i) : Rows w k n K' := ⟨h.lt, fun i hi => by rw [e i hi]; exact h.row i hi, h.there⟩
theorem Rows.put {w : World} {k n : Nat} {K : Bl} (h : Rows w k n K) (hK : ∀ i, (K i).length = 16) {i : Nat} (hi : i < n) {b : List UInt8} (hb : b.length = 16) : Rows (w.setCells k (i * 16) (bs b)) k n (upd K i b) := by
  refine ⟨by simpa using Nat.lt_of_lt_of_le h.lt (grown_setCells k (bs b) (i * 16) w).size, fun j hj => ?_, World.there_setCells h.there _ _ _⟩
  by_cases e : j = i
  · subst e
    rw [upd_same]
    exact World.rangeAt_setCells_same _ _ _ _ (by rw [bs_len, hb]; exact there_part h.there hi)
  · rw [upd_other _ _ e]
    exact World.rangeAt_setCells_apart (h.row j hj) _ _ _ (.inr (by rw [bs_len, bs_len, hb, hK]; omega))
theorem Rows.other {w : World} {k n : Nat} {K : Bl} (h : Rows w k n K) {b : Nat} (hb : k ≠ b) (o : Nat) (vs : List Value) : Rows (w.setCells b o vs) k n K :=
  h.keep (grown_setCells b vs o w).size ((grown_setCells b vs o w).block k h.lt fun e => hb (by injection e with e))

/-- The cells of some writes. -/
def wcs (W : Wr) : List Value := W.flatMap fun x => .int .i64 (x.1 : Int) :: bs x.2
theorem wcs_app (a b : Wr) : wcs (a ++ b) = wcs a ++ wcs b := by simp [wcs]
theorem wcs_one (i : Nat) (b : List UInt8) : wcs [(i, b)] = .int .i64 (i : Int) :: bs b := by simp [wcs]
theorem wcs_len (W : Wr) (h : ∀ x ∈ W, x.2.length = 16) : (wcs W).length = W.length * 17 := by
  induction W with
  | nil => rfl
  | cons x r ih =>
    have h1 := h x (by simp)
    have h2 := ih fun y hy => h y (by simp [hy])
    show (.int .i64 (x.1 : Int) :: bs x.2 ++ wcs r).length = _
    simp [h2, bs_len, h1]
    omega
theorem wcs_cell (W : Wr) : ∀ u ∈ wcs W, u.oneCell' = true := by
  intro u hu
  simp only [wcs, List.mem_flatMap] at hu
  obtain ⟨x, _, hu⟩ := hu
  rcases List.mem_cons.1 hu with rfl | hu
  · rfl
  · exact bs_one _ u hu
theorem wcs_at (W : Wr) (h : ∀ x ∈ W, x.2.length = 16) {j : Nat} (hj : j < W.length) : ∀ t u, (.int .i64 (W[j].1 : Int) :: bs W[j].2)[t]? = some u → (wcs W)[j * 17 + t]? = some u := by
  intro t u hu
  have e : wcs W = wcs (W.take j) ++ ((.int .i64 (W[j].1 : Int) :: bs W[j].2) ++ wcs (W.drop (j + 1))) := by
    conv => lhs; rw [show W = W.take j ++ (W[j] :: W.drop (j + 1)) by simp]
    rw [wcs_app]
    rfl
  have hl : (wcs (W.take j)).length = j * 17 := by
    rw [wcs_len _ fun x hx => h x (List.mem_of_mem_take hx)]
    simp
    omega
  have ht := (List.getElem?_eq_some_iff.1 hu).1
  rw [e, List.getElem?_append_right (by omega), List.getElem?_append_left (by rw [hl]; simp only [Nat.add_sub_cancel_left]; exact ht)]
  rw [hl, Nat.add_sub_cancel_left]
  exact hu

/-- A device in block g, by what it is; all its blocks are of F. -/
structure DevAt (w : World) (F : Nat → Prop) (g : Nat) (s : St) (k q : Nat) (A : Option Addr) (c : Nat) : Prop where
  blk : Blk w g 77 #[.slice (some ⟨k, 0, none⟩) s.n s.n, .slice (some ⟨q, 0, none⟩) s.n s.n, .slice A s.W.length c, .bool s.lim.isSome, .int .i64 ((s.lim.getD 0 : Nat) : Int)]
  kept : Rows w k s.n s.K
  seen : Rows w q s.n (app s.W s.K)
  wait : w.ownsRow 0 96 17 (.slice A s.W.length c) s.W.length (wcs s.W)
  gk : g ≠ k
  gq : g ≠ q
  kq : k ≠ q
  Ag : ∀ b, A.map (·.block) = some b → b ≠ g ∧ b ≠ k ∧ b ≠ q ∧ F b
  Fg : F g
  Fk : F k
  Fq : F q
  F : ∀ j, F j → j < w.heap.size
  ok : s.ok
def Dev (w : World) (F : Nat → Prop) (g : Nat) (s : St) : Prop := ∃ k q A c, DevAt w F g s k q A c

theorem Dev.keep {w w' : World} {F : Nat → Prop} {g : Nat} {s : St} (h : Dev w F g s) (hs : w.heap.size ≤ w'.heap.size) (hk : ∀ j, F j → w'.heap[j]? = w.heap[j]?) : Dev w' F g s := by
  obtain ⟨k, q, A, c, h⟩ := h
  exact ⟨k, q, A, c, h.blk.keep (hk g h.Fg), h.kept.keep hs (hk k h.Fk), h.seen.keep hs (hk q h.Fq), own_keep h.wait fun b hb => hk b (h.Ag b hb).2.2.2, h.gk, h.gq, h.kq, h.Ag, h.Fg, h.Fk, h.Fq, fun j hj => Nat.lt_of_lt_of_le (h.F j hj) hs, h.ok⟩
theorem Dev.lt {w : World} {F : Nat → Prop} {g : Nat} {s : St} (h : Dev w F g s) : ∀ j, F j → j < w.heap.size := by
  obtain ⟨k, q, A, c, h⟩ := h
  exact h.F
theorem Dev.ok {w : World} {F : Nat → Prop} {g : Nat} {s : St} (h : Dev w F g s) : s.ok := by
  obtain ⟨k, q, A, c, h⟩ := h
  exact h.ok
/-- Behind what turned nothing that was there. -/
theorem Dev.bel {w w' : World} {F : Nat → Prop} {g : Nat} {s : St} (h : Dev w F g s) (hb : Below w.heap.size w w') : Dev w' F g s := h.keep hb.size fun j hj => hb.block j (h.lt j hj)
/-- Behind what turned another's blocks alone. -/
theorem Dev.kp {w w' : World} {F G : Nat → Prop} {g : Nat} {s : St} (h : Dev w F g s) (hk : Kp G w w') (hap : ∀ j, F j → ¬ G j) : Dev w' F g s := h.keep hk.size fun j hj => hk.block j (h.lt j hj) (hap j hj)

/-- What a call leaves of a device. -/
def Left (w w' : World) (F : Nat → Prop) (g : Nat) (s : St) : Prop := ∃ F' : Nat → Prop, Dev w' F' g s ∧ Kp F w w' ∧ ∀ j, F' j → F j ∨ w.heap.size ≤ j
end Go.Proofs.Ytocmgdhgimpfhaa
