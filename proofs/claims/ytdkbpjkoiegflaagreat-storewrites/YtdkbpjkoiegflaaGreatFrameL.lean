/- The frame of a law's proof, further: rows of blobs that came in. -/
import Derived.Test.YtdkbpjkoiegflaaGreatFrameO
import Derived.Test.YtdkbpjkoiegflaaGreatFrameG
import Derived.Test.YtdkbpjkoiegflaaGreatStDr
namespace Go.Proofs.YtdkbpjkoiegflaaGreat
open Go.ChangeShapes Go.WideShapes Go.ChangeAt Go.RowKit

/-- A row of blobs that came in. -/
def BlobsW (w : World) (A : Option Addr) (n : Nat) : Prop := ∃ l : List Bb, BSl w w.heap.size A n l ∧ ∀ x ∈ l, x.wf ∧ x.nm.length ≤ maxLen
section
variable {H : Type} {enc : TypeId × Value → H} {w : World}
set_option maxRecDepth 100000 in
theorem blob_of {fuel : Nat} {cs : List Value} {x : DataW H × List MemPlace} (hl : cs.length = 11) (h : DataW.trod enc Tryz.prog w 0 (fun _ => true) true fuel 90 cs = some x) : ∃ o : Bb, cs = o.cells ∧ o.wf ∧ o.nm.length ≤ maxLen := by
  obtain ⟨xs, m, _, _, hcl, hxl, hf⟩ := DataW.trod_struct Tryz.underlying90 h
  match cs, hl with
  | [c0, c1, c2, c3, c4, c5, c6, c7, c8, c9, c10], _ =>
    have hx5 : xs.length = 5 := hxl
    have g3 : Tryz.prog.cellsOf 9 = 1 := by kernel_rfl
    have f0 := hf 0 _ rfl
    have f1 := hf 1 _ rfl
    have f2 := hf 2 _ rfl
    have f3 := hf 3 _ rfl
    have f4 := hf 4 _ rfl
    change DataW.trod enc Tryz.prog w 0 _ true m 9 (([c0, c1, c2, c3, c4, c5, c6, c7, c8, c9, c10].drop 0).take (Tryz.prog.cellsOf 9)) = _ at f0
    change DataW.trod enc Tryz.prog w 0 _ true m 54 (([c0, c1, c2, c3, c4, c5, c6, c7, c8, c9, c10].drop 1).take (Tryz.prog.cellsOf 54)) = _ at f1
    change DataW.trod enc Tryz.prog w 0 _ true m 3 (([c0, c1, c2, c3, c4, c5, c6, c7, c8, c9, c10].drop 4).take (Tryz.prog.cellsOf 3)) = _ at f2
    change DataW.trod enc Tryz.prog w 0 _ true m 88 (([c0, c1, c2, c3, c4, c5, c6, c7, c8, c9, c10].drop 5).take (Tryz.prog.cellsOf 88)) = _ at f3
    change DataW.trod enc Tryz.prog w 0 _ true m 3 (([c0, c1, c2, c3, c4, c5, c6, c7, c8, c9, c10].drop 10).take (Tryz.prog.cellsOf 3)) = _ at f4
    rw [g3] at f0
    rw [Tryz.cellsKey] at f1
    rw [Tryz.cellsInt] at f2 f4
    rw [Tryz.cellsPage] at f3
    change DataW.trod enc Tryz.prog w 0 _ true m 9 [c0] = _ at f0
    change DataW.trod enc Tryz.prog w 0 _ true m 54 [c1, c2, c3] = _ at f1
    change DataW.trod enc Tryz.prog w 0 _ true m 3 [c4] = _ at f2
    change DataW.trod enc Tryz.prog w 0 _ true m 88 [c5, c6, c7, c8, c9] = _ at f3
    change DataW.trod enc Tryz.prog w 0 _ true m 3 [c10] = _ at f4
    rw [List.getElem?_eq_getElem (by omega)] at f0 f1 f2 f3 f4
    obtain ⟨s, e0, _, w0⟩ := DataW.trod_string Tryz.underlying9 f0
    obtain ⟨k, hk, hkw⟩ := key_of f1
    obtain ⟨z1, e1, _, w1⟩ := DataW.trod_int Tryz.underlying3 f2
    obtain ⟨p, hp, hpw⟩ := page_of f3
    obtain ⟨z2, e2, _, w2⟩ := DataW.trod_int Tryz.underlying3 f4
    injection e0 with e0
    injection e1 with e1
    injection e2 with e2
    simp only [Ky.cells, List.cons.injEq, and_true] at hk
    simp only [Pg.cells, List.cons.injEq, and_true] at hp
    obtain ⟨rfl, rfl, rfl⟩ := hk
    obtain ⟨rfl, rfl, rfl, rfl, rfl⟩ := hp
    subst e0 e1 e2
    have hn : s.data.toList.length ≤ maxLen := by rw [Array.length_toList]; exact w0
    refine ⟨⟨s.data.toList, k, z1, p, z2⟩, ?_, ⟨by show s.data.toList.length < _; unfold maxLen at hn; omega, hkw, wf_i64 w1, hpw.2.1, hpw.2.2, wf_i64 w2⟩, hn⟩
    show _ = [Value.string (str s.data.toList), Value.int .i64 k.t, Value.int .i64 k.c, Value.int .i64 k.e, Value.int .i64 z1, Value.int .i64 p.k.t, Value.int .i64 p.k.c, Value.int .i64 p.k.e, Value.int .i64 p.id, Value.int .i64 p.ver, Value.int .i64 z2]
    rw [str_of]
theorem blobsArg {fuel : Nat} {A : Option Addr} {n c : Nat} {x : DataW H × List MemPlace} (h : DataW.trod enc Tryz.prog w 0 (fun _ => true) true fuel 71 (Value.slice A n c).cells.toList = some x) : BlobsW w A n := by
  obtain ⟨d, p⟩ := x
  obtain ⟨h1, h2⟩ := elems_of (a := A) (len := n) (cap := c) Tryz.underlying71 (z := 11) (by kernel_rfl) (by decide) h
  have h4 : ∀ m, m ≤ n → ∃ l : List Bb, l.length = m ∧ (∀ j (hj : j < l.length), ∃ b off, A = some ⟨b, off, none⟩ ∧ b < w.heap.size ∧ w.rangeAt b (off + j * 11) l[j].cells) ∧ ∀ x ∈ l, x.wf ∧ x.nm.length ≤ maxLen := by
    intro m
    induction m with
    | zero => exact fun _ => ⟨[], rfl, fun j hj => (by cases hj), fun x hx => by cases hx⟩
    | succ m ih =>
      intro hm
      obtain ⟨l, hl, hq, hw⟩ := ih (by omega)
      obtain ⟨b, off, cs, k, y, hA, hb, hl2, hr, ht⟩ := h2 m (by omega)
      obtain ⟨o, rfl, ho⟩ := blob_of hl2 ht
      refine ⟨l ++ [o], by simp [hl], fun j hj => ?_, fun x hx => ?_⟩
      · rcases Nat.lt_or_ge j l.length with e | e
        · rw [List.getElem_append_left e]
          exact hq j e
        · have e2 : j = m := by simp at hj; omega
          subst e2
          rw [List.getElem_append_right e]
          simp only [hl, Nat.sub_self, List.getElem_cons_zero]
          exact ⟨b, off, hA, hb, hr⟩
      · rcases List.mem_append.1 hx with hx | hx
        · exact hw x hx
        · rw [List.mem_singleton.1 hx]; exact ho
  obtain ⟨l, hl, hq, hw⟩ := h4 n (Nat.le_refl _)
  exact ⟨l, ⟨hl, hq⟩, hw⟩
end
end Go.Proofs.YtdkbpjkoiegflaaGreat
