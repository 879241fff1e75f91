/- Rows of bytes, one behind another, in a row that grows: each in a block of its own, all their blocks among X. -/
import Derived.Test.YtocmgdhgimpfhaaRtLaw
import Derived.Test.YtocmgdhgimpfhaaNums
namespace Go.Proofs.Ytocmgdhgimpfhaa
open Go.RowKit

theorem Try.infoRowsG : (Try.prog.info? 44).map (fun i => (i.zero, i.size, i.bytes)) = some (some (.slice none 0 0), 1, 24) := by kernel_rfl
structure RwG (w : World) (X : Nat → Prop) (RA : Option Addr) (m rc : Nat) (vs : List Value) : Prop where
  own : w.ownsRow 0 44 1 (.slice RA m rc) m vs
  RX : ∀ b, RA.map (·.block) = some b → X b
  el : ∀ i, i < m → ∃ A n c l, vs[i]? = some (.slice A n c) ∧ (∀ b, A.map (·.block) = some b → X b ∧ RA.map (·.block) ≠ some b) ∧ Bts w 0 w.heap.size A n l
theorem RwG.nil (w : World) (X : Nat → Prop) : RwG w X none 0 0 [] := ⟨own_nilrow _ _ _ _, fun b hb => (by cases hb), fun i hi => absurd hi (by omega)⟩
theorem RwG.stay {w w' : World} {X : Nat → Prop} {RA : Option Addr} {m rc : Nat} {vs : List Value} (h : RwG w X RA m rc vs) (hs : Stay X w w') : RwG w' X RA m rc vs :=
  ⟨own_keep h.own fun b hb => hs.2 b (h.RX b hb), h.RX, fun i hi => by
    obtain ⟨A, n, c, l, h1, h2, h3⟩ := h.el i hi
    exact ⟨A, n, c, l, h1, h2, h3.at1 hs.1 fun u hu => hs.2 u (h2 u hu).1⟩⟩
theorem RwG.push {w w' : World} {X : Nat → Prop} {RA RA' : Option Addr} {m rc rc' : Nat} {vs : List Value} (h : RwG w X RA m rc vs) (hX : ∀ x, X x → x < w.heap.size) {A : Option Addr} {n c : Nat} {l : List UInt8} {O : Obj} (hb : Bts w 0 w.heap.size A n l) (hA : ∀ b, A.map (·.block) = some b → ¬ X b ∧ b < w.heap.size)
    (ho : w'.ownsRow 0 44 1 (.slice RA' (m + 1) rc') (m + 1) (vs ++ [.slice A n c])) (hg : (w.alloc O).grownBy w' (RA.map (·.block))) (hl : Lies RA RA' (w.heap.size + 1)) :
    RwG w' (fun x => (X x ∨ A.map (·.block) = some x) ∨ RA'.map (·.block) = some x) RA' (m + 1) rc' (vs ++ [.slice A n c]) := by
  have hs : (w.alloc O).heap.size = w.heap.size + 1 := by simp
  have hkeep : ∀ y, y < w.heap.size → RA.map (·.block) ≠ some y → w'.heap[y]? = w.heap[y]? := fun y hy hne =>
    (hg.block y (by omega) (fun e => hne e.symm)).trans (((Below.refl w.heap.size w).alloc (Nat.le_refl _) O).block y hy)
  have hlen : vs.length = m := by have := h.own.1; omega
  have hsz := hg.size
  have hno : ∀ y, y < w.heap.size → RA.map (·.block) ≠ some y → RA'.map (·.block) ≠ some y := fun y hy hne e => by
    rcases hl y e with e | e
    · exact hne e
    · omega
  refine ⟨ho, fun x hx => .inr hx, fun i hi => ?_⟩
  by_cases e : i = m
  · subst e
    have hR : ∀ b, A.map (·.block) = some b → RA.map (·.block) ≠ some b := fun b hb e => (hA b hb).1 (h.RX b e)
    exact ⟨A, n, c, l, by rw [← hlen, List.getElem?_append_right (Nat.le_refl _), Nat.sub_self]; rfl, fun b hb => ⟨.inl (.inr hb), hno b (hA b hb).2 (hR b hb)⟩, hb.at1 (by omega) fun u hu => hkeep u (hA u hu).2 (hR u hu)⟩
  · obtain ⟨A', n', c', l', h1, h2, h3⟩ := h.el i (by omega)
    exact ⟨A', n', c', l', by rw [List.getElem?_append_left (by omega)]; exact h1, fun b hb => ⟨.inl (.inl (h2 b hb).1), hno b (hX b (h2 b hb).1) (h2 b hb).2⟩, h3.at1 (by omega) fun u hu => hkeep u (hX u (h2 u hu).1) (h2 u hu).2⟩
end Go.Proofs.Ytocmgdhgimpfhaa
