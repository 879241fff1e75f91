/- A map and the document's map side by side: what each call does to one leaves the other. -/
import Derived.Test.YtfkaobpfdpfahaaSqW2
import Derived.Test.YtfkaobpfdpfahaaSpPlay
import Derived.Deep.DeepCutAuto
import Derived.Deep.CutBlock
namespace Go.Proofs.Ytfkaobpfdpfahaa
open Go.RowKit

/-- A map (as s) and the document's (as t), apart, both new since w; the blocks of X are of neither. -/
def Tw (w wr : World) (g k ge N r : Nat) (s t : Sp) (X : Nat → Prop) : Prop := ∃ (G : Nat → Prop) (L : List Nat), Mp wr g k s ∧ RMp wr G ge N r L ∧ Cp t L ∧ t.T.length = N ∧ t.r = r ∧ ¬ G g ∧ ¬ G k ∧ w.heap.size ≤ g ∧ w.heap.size ≤ k ∧ (∀ j, G j → w.heap.size ≤ j) ∧ Below w.heap.size w wr ∧ ∀ x, X x → x ≠ k ∧ ¬ G x ∧ x < wr.heap.size
section
variable {w wr : World} {g k ge N r : Nat} {s t : Sp} {X : Nat → Prop}
theorem Tw.below (h : Tw w wr g k ge N r s t X) : Below w.heap.size w wr := by
  obtain ⟨G, L, h1, h2, h3, h4, h5, h6, h7, h8, h9, h10, h11, h12⟩ := h
  exact h11
theorem Tw.mp (h : Tw w wr g k ge N r s t X) : Mp wr g k s := by
  obtain ⟨G, L, h1, h2, h3, h4, h5, h6, h7, h8, h9, h10, h11, h12⟩ := h
  exact h1
theorem Tw.go (h : Tw w wr g k ge N r s t X) {wr' : World} (hb : Below wr.heap.size wr wr') : Tw w wr' g k ge N r s t X := by
  obtain ⟨G, L, h1, h2, h3, h4, h5, h6, h7, h8, h9, h10, h11, h12⟩ := h
  exact ⟨G, L, h1.bel hb, h2.bel hb, h3, h4, h5, h6, h7, h8, h9, h10, h11.trans (hb.mono h11.size), fun x hx => ⟨(h12 x hx).1, (h12 x hx).2.1, Nat.lt_of_lt_of_le (h12 x hx).2.2 hb.size⟩⟩
theorem Tw.less (h : Tw w wr g k ge N r s t X) {Y : Nat → Prop} (hY : ∀ x, Y x → X x) : Tw w wr g k ge N r s t Y := by
  obtain ⟨G, L, h1, h2, h3, h4, h5, h6, h7, h8, h9, h10, h11, h12⟩ := h
  exact ⟨G, L, h1, h2, h3, h4, h5, h6, h7, h8, h9, h10, h11, fun x hx => h12 x (hY x hx)⟩
theorem Tw.var (h : Tw w wr g k ge N r s t X) {wr' : World} (hb : Below wr.heap.size wr wr') (hlt : wr.heap.size < wr'.heap.size) : Tw w wr' g k ge N r s t (fun x => x = wr.heap.size) := by
  have h' := h.go hb
  obtain ⟨G, L, h1, h2, h3, h4, h5, h6, h7, h8, h9, h10, h11, h12⟩ := h
  exact ⟨G, L, h1.bel hb, h2.bel hb, h3, h4, h5, h6, h7, h8, h9, h10, h11.trans (hb.mono h11.size), fun x hx => ⟨by have := h1.row.lt; omega, fun e => by have := h2.lt x e; omega, by omega⟩⟩
theorem Tw.one (h : Tw w wr g k ge N r s t X) {wr' : World} {s' : Sp} (hL : MLeft wr wr' g k s') : Tw w wr' g k ge N r s' t X ∧ ∀ x, X x → wr'.heap[x]? = wr.heap[x]? := by
  obtain ⟨G, L, h1, h2, h3, h4, h5, h6, h7, h8, h9, h10, h11, h12⟩ := h
  refine ⟨⟨G, L, hL.1, h2.kp hL.2 fun j hj e => h7 (e ▸ hj), h3, h4, h5, h6, h7, h8, h9, h10, h11.trans (hL.2.below (B := w.heap.size) (fun j hj => by omega) h11.size), fun x hx => ⟨(h12 x hx).1, (h12 x hx).2.1, Nat.lt_of_lt_of_le (h12 x hx).2.2 hL.2.size⟩⟩, fun x hx => hL.2.block x (h12 x hx).2.2 (h12 x hx).1⟩
theorem Tw.two (h : Tw w wr g k ge N r s t X) (hN : N ≤ 4096) : ∃ G L, RMp wr G ge N r L ∧ Cp t L ∧ t.T.length = N ∧ t.r = r ∧ L.length ≤ 4096 ∧ ∀ wr' L' t', RLeft wr wr' G ge N r L' → Cp t' L' → t'.T.length = N → t'.r = r → Tw w wr' g k ge N r s t' X ∧ ∀ x, X x → wr'.heap[x]? = wr.heap[x]? := by
  obtain ⟨G, L, h1, h2, h3, h4, h5, h6, h7, h8, h9, h10, h11, h12⟩ := h
  refine ⟨G, L, h2, h3, h4, h5, by have := h3.len; have := t.free_le; omega, fun wr' L' t' hL hc hn hr => ?_⟩
  obtain ⟨G', hd, hk, hG'⟩ := hL
  have hap : ∀ y, ¬ G y → y < wr.heap.size → ¬ G' y := fun y hy hlt e => by
    rcases hG' y e with e | e
    · exact hy e
    · omega
  refine ⟨⟨G', L', h1.kp hk h6 h7, hd, hc, hn, hr, hap g h6 h1.blk.lt, hap k h7 h1.row.lt, h8, h9, fun j hj => ?_, h11.trans (hk.below h10 h11.size), fun x hx => ⟨(h12 x hx).1, hap x (h12 x hx).2.1 (h12 x hx).2.2, Nat.lt_of_lt_of_le (h12 x hx).2.2 hk.size⟩⟩, fun x hx => hk.block x (h12 x hx).2.2 (h12 x hx).2.1⟩
  rcases hG' j hj with e | e
  · exact h10 j e
  · have := h11.size; omega
theorem Tw.is (h : Tw w wr g k ge N r s t X) (hN : N ≤ 4096) (i : Int) :
    Calls Try.prog 17 #[.pointer (some ⟨ge, 0, none⟩), .int .i64 i] wr fun e w' => e = .returned (.bool (t.fr i)) ∧ wr = w' := by
  obtain ⟨G, L, h1, h2, h3, h4, h5, h6, h7, h8, h9, h10, h11, h12⟩ := h
  have := ris_c wr G ge N r L h2 (by have := h3.len; have := t.free_le; omega) i
  rwa [h3.isin] at this
theorem Tw.fld (h : Tw w wr g k ge N r s t X) : ∃ A c, wr.cell? ⟨ge, 2, none⟩ = some (.slice A t.free c) := by
  obtain ⟨G, L, h1, ⟨A, c, h2⟩, h3, _⟩ := h
  obtain ⟨-, -, x2⟩ := h2.cells
  rw [h3.len] at x2
  exact ⟨A, c, x2⟩
end
theorem Sp.tk_fr (s : Sp) (i : Int) (h0 : 0 ≤ i) (h1 : i < (s.T.length : Int)) : s.fr i = !s.tk i := by
  have hh : s.hs i = true := by unfold Sp.hs; simp; exact ⟨h0, h1⟩
  obtain ⟨j, b, rfl, _, hb⟩ := s.hs_in i hh
  rw [Sp.fr_in hb, Sp.tk_in hb]
theorem Sp.tk_no (s : Sp) (i : Int) (h : i < 0 ∨ (s.T.length : Int) ≤ i) : s.tk i = false := by
  refine s.tk_out i ?_
  unfold Sp.hs
  rw [Bool.and_eq_false_iff]
  simp only [decide_eq_false_iff_not]
  omega
end Go.Proofs.Ytfkaobpfdpfahaa
