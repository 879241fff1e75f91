/- Mathematics of bits.Put's chunks, and what stands while it goes through them. Nothing is assumed. -/
import Derived.Test.YtejmllpffocneaaBtCh
import Derived.Test.YtejmllpffocneaaOpL
namespace Go.Proofs.Ytejmllpffocneaa
open Go.RowKit

/-- Chunk k: eight numbers, or what is left. -/
def chk (l : List Int) (k : Nat) : List Int := (l.drop (8 * k)).take 8
theorem chk_len (l : List Int) (k : Nat) : (chk l k).length = min 8 (l.length - 8 * k) := by simp [chk]
theorem chk_mem {l : List Int} {k : Nat} {x : Int} (h : x ∈ chk l k) : x ∈ l := List.mem_of_mem_drop (List.mem_of_mem_take h)
/-- The bytes of these chunks. -/
def outC (l : List Int) (m : Int) (w : Nat) (ys : List Nat) : List UInt8 := ys.flatMap fun k => bmP (dfs (chk l k) m w)
theorem outC_snoc (l : List Int) (m : Int) (w : Nat) (ys : List Nat) (k : Nat) : outC l m w (ys ++ [k]) = outC l m w ys ++ bmP (dfs (chk l k) m w) := by simp [outC]
theorem outC_nil (l : List Int) (m : Int) (w : Nat) : outC l m w [] = [] := rfl
theorem chk_bytes (l : List Int) (m : Int) {w : Nat} (hw : w ≤ 64) (k : Nat) : (bmP (dfs (chk l k) m w)).length ≤ 64 := by
  rw [bmP_len, dfs_len, chk_len]
  have h1 : min 8 (l.length - 8 * k) * w ≤ 8 * 64 := Nat.mul_le_mul (Nat.min_le_left _ _) hw
  unfold nby
  omega
theorem outC_take (l : List Int) (m : Int) (w : Nat) : ∀ K, 8 * K ≤ l.length + 7 → outC l m w (List.range K) = bmP (dfs (l.take (8 * K)) m w)
  | 0, _ => by simp [outC, dfs, bmP_nil]
  | K + 1, h => by
    rw [List.range_succ, outC_snoc, outC_take l m w K (by omega)]
    have e : l.take (8 * (K + 1)) = l.take (8 * K) ++ chk l K := by
      unfold chk
      rw [Nat.mul_succ]
      exact List.take_add
    rw [e, dfs_app, bmP_app _ (by rw [dfs_len, List.length_take, Nat.min_eq_left (by omega), Nat.mul_assoc]; exact Nat.mul_mod_right _ _)]
theorem outC_all (l : List Int) (m : Int) (w : Nat) : outC l m w (List.range ((l.length + 7) / 8)) = bmP (dfs l m w) := by
  rw [outC_take l m w _ (by omega), List.take_of_length_le (by omega)]
theorem lst_takeI {w : World} {lo hi n : Nat} {A : Option Addr} {l : List Int} (h : Lst w lo hi A n (ics l)) (k : Nat) : Lst w lo hi A (min k n) (ics (l.take k)) := by
  have hl := h.1
  rw [ics_len] at hl
  refine ⟨by rw [ics_len, List.length_take, hl], fun hn => ?_⟩
  obtain ⟨g, off, e, h1, h2, hc⟩ := h.2 (by omega)
  refine ⟨g, off, e, h1, h2, fun j u hu => hc j u ?_⟩
  have e2 : ics (l.take k) = (ics l).take k := by simp [ics, List.map_take]
  rw [e2, List.getElem?_take] at hu
  split at hu
  · exact hu
  · cases hu
theorem lst_chk {w : World} {lo hi n g off : Nat} {l : List Int} (h : Lst w lo hi (some ⟨g, off, none⟩) n (ics l)) (k : Nat) : Lst w lo hi (some ⟨g, off + 8 * k, none⟩) (min 8 (n - 8 * k)) (ics (chk l k)) := lst_takeI (lst_dropI h (8 * k)) 8
/-- Two boxes of unlike types are two. -/
theorem Blk.ne {w : World} {a b : Nat} {t u : TypeId} {x y : Array Value} (h : Blk w a t x) (g : Blk w b u y) (htu : t ≠ u) : a ≠ b := by
  rintro rfl
  have h1 : w.heap[a]? = some (.cells x t (0, 0)) := h
  have h2 : w.heap[a]? = some (.cells y u (0, 0)) := g
  rw [h1] at h2
  injection h2 with h2
  injection h2 with _ h2 _
  exact htu h2
def isC (w : World) (b : Nat) : Prop := ∃ o : Obj, w.heap[b]? = some o ∧ o.isCells = true
theorem Blk.isC {w : World} {b : Nat} {t : TypeId} {x : Array Value} (h : Blk w b t x) : isC w b := ⟨_, h, rfl⟩
theorem own_isC {w : World} {base : Nat} {e : TypeId} {z n c : Nat} {A : Option Addr} {xs : List Value} (h : w.ownsRow base e z (.slice A n c) n xs) (d : Nat) (hd : A.map (·.block) = some d) : isC w d := by
  rcases h.2 with ⟨hv, _⟩ | ⟨g, cap, cur, hv, _, hg, _⟩
  · injection hv with hA; subst hA; cases hd
  · injection hv with hA
    subst hA
    injection hd with hd
    subst hd
    exact ⟨_, hg, rfl⟩
theorem isC_grown {w w' : World} {b : Nat} {row : Option Nat} (h : isC w b) (hg : w.grownBy w' row) (hr : ∀ r, row = some r → ∃ o : Obj, w.heap[r]? = some o ∧ o.isCells = false) : w'.heap[b]? = w.heap[b]? := by
  obtain ⟨o, h1, h2⟩ := h
  exact grownBy_keeps_cells hg hr h1 h2
theorem keeps_row {w w' : World} {b : Nat} (hb : isC w b) (hg : w.grownBy w' (some b)) : KeepsOthers w w' := KeepsOthers.of_grownBy hg fun j o e ho => by
  injection e with e
  subst e
  obtain ⟨o', h1, h2⟩ := hb
  rw [h1] at ho
  injection ho with ho
  rw [← ho, h2]
theorem keeps_rowA {w w' : World} {base : Nat} {e : TypeId} {z n c : Nat} {A : Option Addr} {xs : List Value} (h : w.ownsRow base e z (.slice A n c) n xs) (hg : w.grownBy w' (A.map (·.block))) : KeepsOthers w w' := KeepsOthers.of_grownBy hg fun j o ej ho => by
  obtain ⟨o', h1, h2⟩ := own_isC h j ej
  rw [h1] at ho
  injection ho with ho
  rw [← ho, h2]
/-- What stays as it is in every round: the least number, the width, what the iterator has, what lay ahead. -/
structure PuJ (w : World) (b4 Bs Bn : Nat) (m : Int) (W g off n c : Nat) (wr : World) : Prop where
  x3 : Blk wr w.heap.size 3 #[.int .i64 m]
  x4 : Blk wr b4 3 #[.int .i64 (W : Int)]
  xs : Blk wr Bs 22 #[.slice (some ⟨g, off, none⟩) n c]
  xn : Blk wr Bn 3 #[.int .i64 8]
  be : Below w.heap.size w wr
section
variable {w wr wr' : World} {b4 Bs Bn : Nat} {m : Int} {W g off n c : Nat}
theorem PuJ.bel (h : PuJ w b4 Bs Bn m W g off n c wr) (hb : Below wr.heap.size wr wr') : PuJ w b4 Bs Bn m W g off n c wr' :=
  ⟨h.x3.keep (hb.block _ h.x3.lt), h.x4.keep (hb.block _ h.x4.lt), h.xs.keep (hb.block _ h.xs.lt), h.xn.keep (hb.block _ h.xn.lt), h.be.trans (hb.mono h.be.size)⟩
theorem PuJ.grown {row : Option Nat} (h : PuJ w b4 Bs Bn m W g off n c wr) (hg : wr.grownBy wr' row) (h3 : some w.heap.size ≠ row) (h4 : some b4 ≠ row) (hs : some Bs ≠ row) (hn : some Bn ≠ row) (hB : ∀ k, row = some k → w.heap.size ≤ k) : PuJ w b4 Bs Bn m W g off n c wr' :=
  ⟨h.x3.grown hg h3, h.x4.grown hg h4, h.xs.grown hg hs, h.xn.grown hg hn, h.be.grown hg h.be.size hB⟩
theorem PuJ.from_ {row : Option Nat} (h : PuJ w b4 Bs Bn m W g off n c wr) (hg : wr.grownBy wr' row) (hr : ∀ r, row = some r → ∃ o : Obj, wr.heap[r]? = some o ∧ o.isCells = false) (hB : ∀ k, row = some k → w.heap.size ≤ k) : PuJ w b4 Bs Bn m W g off n c wr' :=
  ⟨h.x3.keep (isC_grown h.x3.isC hg hr), h.x4.keep (isC_grown h.x4.isC hg hr), h.xs.keep (isC_grown h.xs.isC hg hr), h.xn.keep (isC_grown h.xn.isC hg hr), h.be.grown hg h.be.size hB⟩
/-- A row of bytes of the call's own: what it is appended to may turn. -/
theorem PuJ.row {base p q : Nat} {A : Option Addr} {xs : List Value} (h : PuJ w b4 Bs Bn m W g off n c wr) (hr : wr.ownsRow base 5 1 (.slice A p q) p xs) (hg : wr.grownBy wr' (A.map (·.block))) (hB : w.heap.size ≤ base) : PuJ w b4 Bs Bn m W g off n c wr' :=
  h.grown hg (blk_ne_row h.x3 (by decide) hr) (blk_ne_row h.x4 (by decide) hr) (blk_ne_row h.xs (by decide) hr) (blk_ne_row h.xn (by decide) hr) fun k hk => Nat.le_trans hB (by
    rcases hr.2 with ⟨hv, _⟩ | ⟨g', cap, cur, hv, hb, _⟩
    · injection hv with hA; subst hA; cases hk
    · injection hv with hA
      subst hA
      have hk2 : g' = k := by simpa using hk
      omega)
theorem PuJ.box {b5 : Nat} {v : Value} (h : PuJ w b4 Bs Bn m W g off n c wr) (hx : Blk wr b5 24 #[v]) (hg : wr.grownBy wr' (some b5)) (hB : w.heap.size ≤ b5) : PuJ w b4 Bs Bn m W g off n c wr' :=
  h.grown hg (fun e => h.x3.ne hx (by decide) (Option.some.inj e)) (fun e => h.x4.ne hx (by decide) (Option.some.inj e)) (fun e => h.xs.ne hx (by decide) (Option.some.inj e)) (fun e => h.xn.ne hx (by decide) (Option.some.inj e)) fun k hk => by
    injection hk with hk
    omega
theorem PuJ.kc (h : PuJ w b4 Bs Bn m W g off n c wr) (h' : PuJ w b4 Bs Bn m W g off n c wr') : Kc Bs Bn wr wr' := by
  have a1 : wr.heap[Bs]? = _ := h.xs
  have a2 : wr'.heap[Bs]? = _ := h'.xs
  have a3 : wr.heap[Bn]? = _ := h.xn
  have a4 : wr'.heap[Bn]? = _ := h'.xn
  exact ⟨a2.trans a1.symm, a4.trans a3.symm⟩
end
/-- What stands between the rounds. -/
def PuI (w : World) (b4 b5 Bs Bn : Nat) (m : Int) (W g off n c : Nat) (hd : List UInt8) (L : List Int) (pre : List Nat) (wr : World) : Prop :=
  PuJ w b4 Bs Bn m W g off n c wr ∧ ∃ A p c5, Blk wr b5 24 #[.slice A p c5] ∧ wr.ownsRow w.heap.size 5 1 (.slice A p c5) p (bs (hd ++ outC L m W pre)) ∧ p ≤ 11 + 64 * pre.length
theorem PuI.own {w : World} {b4 b5 Bs Bn : Nat} {m : Int} {W g off n c : Nat} {hd : List UInt8} {L : List Int} {B : Nat} (hB : w.heap.size ≤ B) : OwnFrom B (PuI w b4 b5 Bs Bn m W g off n c hd L) := by
  rintro pre wr wr' row ⟨hj, A, p, c5, hx, ho, hp⟩ hg hr
  have hr2 : ∀ r, row = some r → ∃ o : Obj, wr.heap[r]? = some o ∧ o.isCells = false := fun r e => (hr r e).2
  exact ⟨hj.from_ hg hr2 fun k e => Nat.le_trans hB (hr k e).1, A, p, c5, hx.keep (isC_grown hx.isC hg hr2), own_keep ho fun d hd => isC_grown (own_isC ho d hd) hg hr2, hp⟩
end Go.Proofs.Ytejmllpffocneaa
