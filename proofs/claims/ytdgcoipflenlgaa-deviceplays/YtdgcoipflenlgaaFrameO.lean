/- The frame of a law's proof, further: rows of bools, and rows of the scripts' operations, that came in. -/
import Derived.Test.YtdgcoipflenlgaaFrame
import Derived.Test.YtdgcoipflenlgaaDvFirst
import Derived.Deep.Grids
namespace Go.Proofs.Ytdgcoipflenlgaa
open Go.ChangeShapes Go.WideShapes Go.ChangeAt Go.RowKit

/-- An operation of a script, by its parts. -/
structure OpV where
  kind : Int
  i : Int
  BA : Option Addr
  Bn : Nat
  Bc : Nat
  l : List UInt8
  KA : Option Addr
  Kn : Nat
  Kc : Nat
  ks : List Bool
def OpV.cells (o : OpV) : List Value := [.int .i64 o.kind, .int .i64 o.i, .slice o.BA o.Bn o.Bc, .slice o.KA o.Kn o.Kc]
structure OpV.ok (o : OpV) (w : World) (hi : Nat) : Prop where
  b : Bts w 0 hi o.BA o.Bn o.l
  bc : o.Bn ≤ o.Bc
  k : Lst w 0 hi o.KA o.Kn (o.ks.map .bool)
  k1 : -9223372036854775808 ≤ o.kind ∧ o.kind ≤ 9223372036854775807
  i1 : -9223372036854775808 ≤ o.i ∧ o.i ≤ 9223372036854775807
  Kb : ∀ u, o.Kn ≠ 0 → o.KA.map (·.block) = some u → u < hi
/-- A row of n operations at A, all that it holds in blocks below hi. -/
def Ops (w : World) (hi : Nat) (A : Option Addr) (n : Nat) : Prop := ∀ j, j < n → ∃ b off o, A = some ⟨b, off, none⟩ ∧ b < hi ∧ w.rangeAt b (off + j * 4) (OpV.cells o) ∧ o.ok w hi
theorem OpV.ok.below {o : OpV} {w w' : World} {hi : Nat} (h : o.ok w hi) (hb : Below hi w w') : o.ok w' hi := ⟨h.b.below hb (Nat.le_refl _), h.bc, h.k.below hb (Nat.le_refl _), h.k1, h.i1, h.Kb⟩
theorem Ops.below {w w' : World} {hi n : Nat} {A : Option Addr} (h : Ops w hi A n) (hb : Below hi w w') : Ops w' hi A n := fun j hj => by
  obtain ⟨b, off, o, hA, hlt, hr, ho⟩ := h j hj
  exact ⟨b, off, o, hA, hlt, rangeAt_keep hr (hb.block b hlt), ho.below hb⟩

section
variable {H : Type} {enc : TypeId × Value → H} {w : World}
theorem isRow_bts {a : Option Addr} {len cap : Nat} {zs : List Int} (h : IsRow .u8 w a len cap zs) : ∃ l : List UInt8, Bts w 0 w.heap.size a len l ∧ len ≤ cap := by
  obtain ⟨l, h1, h2, _⟩ := argB h
  exact ⟨l, h1, h2⟩
theorem bools_of {t e : TypeId} {fuel : Nat} {cs : List Value} {x : DataW H × List MemPlace} (ht : Try.prog.underlying t = some (.slice e)) (he : Try.prog.underlying e = some .bool) (hc : Try.prog.cellsOf e = 1)
    (h : DataW.trod enc Try.prog w 0 (fun _ => true) true fuel t cs = some x) : ∃ (a : Option Addr) (len cap : Nat) (ks : List Bool), cs = [.slice a len cap] ∧ len ≤ cap ∧ Lst w 0 w.heap.size a len (ks.map Value.bool) := by
  rcases Deep.open_bools ht he hc h with ⟨hcs, _⟩ | ⟨a, len, cap, B, hcs, _, hl, _, _, hcell⟩
  · exact ⟨none, 0, 0, [], hcs, Nat.le_refl _, ⟨rfl, fun h => absurd h (by decide)⟩⟩
  · refine ⟨some a, len, cap, ((List.range cap).map B).take len, hcs, hl, ?_⟩
    rw [List.map_take]
    refine lst_of hl (by simp) (fun h0 => ?_) fun i hi => ?_
    · have := hcell 0 h0
      rw [add_zero_] at this
      exact block_lt this
    · simp at hi
      rw [hcell i hi]
      simp [hi]
theorem boolsArg {t e : TypeId} {fuel : Nat} {a : Option Addr} {len cap : Nat} {x : DataW H × List MemPlace} (ht : Try.prog.underlying t = some (.slice e)) (he : Try.prog.underlying e = some .bool) (hc : Try.prog.cellsOf e = 1)
    (h : DataW.trod enc Try.prog w 0 (fun _ => true) true fuel t (Value.slice a len cap).cells.toList = some x) : ∃ ks : List Bool, Lst w 0 w.heap.size a len (ks.map Value.bool) := by
  obtain ⟨a', l', c', ks, hcs, _, hl⟩ := bools_of ht he hc h
  simp [Value.cells] at hcs
  obtain ⟨rfl, rfl, rfl⟩ := hcs
  exact ⟨ks, hl⟩
theorem ops_of {fuel : Nat} {a : Option Addr} {len cap : Nat} {d : DataW H} {p : List MemPlace}
    (h : DataW.trod enc Try.prog w 0 (fun _ => true) true fuel 22 (Value.slice a len cap).cells.toList = some (d, p)) : Ops w w.heap.size a len ∧ len ≤ 9223372036854775807 := by
  rcases DataW.trod_slice Try.underlying22 h with ⟨hcs, _⟩ | ⟨x, l, c, elems, rest, n, _, hcs, _, _, hl, hmx, hlen, hel, _⟩
  · simp [Value.cells] at hcs
    obtain ⟨rfl, rfl, rfl⟩ := hcs
    exact ⟨fun j hj => absurd hj (by omega), by decide⟩
  · simp [Value.cells] at hcs
    obtain ⟨rfl, rfl, rfl⟩ := hcs
    have h4 : Try.prog.cellsOf 34 = 4 := by kernel_rfl
    have hsp0 : 0 < len → x.spot = none := fun h0 => by
      have hj' := hel 0 h0
      rw [h4, List.getElem?_eq_getElem (by omega)] at hj'
      obtain ⟨cs, hc1, hc2⟩ := Option.bind_eq_some_iff.1 hj'
      obtain ⟨_, hcl, hcell⟩ := World.cells?_some hc1
      have := hcell 0 (by omega)
      rw [Nat.zero_mul, add_zero_, add_zero_, List.getElem?_eq_getElem (by omega)] at this
      exact World.cell?_spot this
    refine ⟨fun j hj => ?_, by unfold maxLen at hmx; omega⟩
    have hj' := hel j hj
    rw [h4, List.getElem?_eq_getElem (by omega)] at hj'
    obtain ⟨cs, hc1, hc2⟩ := Option.bind_eq_some_iff.1 hj'
    obtain ⟨xs, m, _, _, hcl, hxl, hf⟩ := DataW.trod_struct Try.underlying34 hc2
    rw [h4] at hcl
    match cs, hcl with
    | [c0, c1, c2, c3], _ =>
      have g1 : Try.prog.cellsOf 3 = 1 := by kernel_rfl
      have g2 : Try.prog.cellsOf 31 = 1 := by kernel_rfl
      have g3 : Try.prog.cellsOf 32 = 1 := by kernel_rfl
      have hx4 : xs.length = 4 := hxl
      have f0 := hf 0 _ rfl
      have f1 := hf 1 _ rfl
      have f2 := hf 2 _ rfl
      have f3 := hf 3 _ rfl
      change DataW.trod enc Try.prog w 0 _ true m 3 (([c0, c1, c2, c3].drop 0).take (Try.prog.cellsOf 3)) = _ at f0
      change DataW.trod enc Try.prog w 0 _ true m 3 (([c0, c1, c2, c3].drop 1).take (Try.prog.cellsOf 3)) = _ at f1
      change DataW.trod enc Try.prog w 0 _ true m 31 (([c0, c1, c2, c3].drop 2).take (Try.prog.cellsOf 31)) = _ at f2
      change DataW.trod enc Try.prog w 0 _ true m 32 (([c0, c1, c2, c3].drop 3).take (Try.prog.cellsOf 32)) = _ at f3
      rw [g1] at f0 f1
      rw [g2] at f2
      rw [g3] at f3
      change DataW.trod enc Try.prog w 0 _ true m 3 [c0] = _ at f0
      change DataW.trod enc Try.prog w 0 _ true m 3 [c1] = _ at f1
      change DataW.trod enc Try.prog w 0 _ true m 31 [c2] = _ at f2
      change DataW.trod enc Try.prog w 0 _ true m 32 [c3] = _ at f3
      rw [List.getElem?_eq_getElem (by omega)] at f0 f1 f2 f3
      obtain ⟨k0, e0, _, w0⟩ := DataW.trod_int Try.underlying3 f0
      obtain ⟨k1, e1, _, w1⟩ := DataW.trod_int Try.underlying3 f1
      obtain ⟨KA, Kn, Kc, ks, e3, hk, hks⟩ := bools_of Try.underlying32 Try.underlying4 (by kernel_rfl) f3
      have hb : ∃ BA Bn Bc l, [c2] = [Value.slice BA Bn Bc] ∧ Bn ≤ Bc ∧ Bts w 0 w.heap.size BA Bn l := by
        rcases open_ints Try.underlying31 Try.underlying5 (by kernel_rfl) f2 with ⟨hcs, _⟩ | ⟨y, l, c, zs, hcs, _, hl, hm, hz, hx, hcell, hwz⟩
        · exact ⟨none, 0, 0, [], hcs, Nat.le_refl _, Bts.nil _ _ _ _⟩
        · have hz' : zs.length = c := by simpa using hz
          obtain ⟨bl, hbl, _⟩ := isRow_bts (w := w) (a := some y) (len := l) (cap := c) (zs := zs) (.inr ⟨_, rfl, hl, hm, hz', fun h0 => by
            have hc0 := hcell 0 (by omega)
            rw [add_zero_] at hc0
            exact block_lt hc0, hcell, hwz⟩)
          exact ⟨some y, l, c, bl, hcs, hl, hbl⟩
      obtain ⟨BA, Bn, Bc, l, e2, hbc, hbt⟩ := hb
      injection e0 with e0
      injection e1 with e1
      injection e2 with e2
      injection e3 with e3
      subst e0 e1 e2 e3
      obtain ⟨_, _, hcell⟩ := World.cells?_some hc1
      have hs := hsp0 (by omega)
      obtain ⟨b, off, spot⟩ := x
      have hsp : spot = none := hs
      subst hsp
      have hlt := block_lt (hcell 0 (by omega))
      rw [add_plain, add_plain] at hlt
      refine ⟨b, off, ⟨k0, k1, BA, Bn, Bc, l, KA, Kn, Kc, ks⟩, rfl, hlt, fun t v hv => ?_, ⟨hbt, hbc, hks, wf_i64 w0, wf_i64 w1, fun u hu hA => ?_⟩⟩
      · have ht : t < 4 := (List.getElem?_eq_some_iff.1 hv).1
        have := hcell t ht
        rw [add_plain, add_plain] at this
        rw [this]
        exact hv
      · have hu' : Kn ≠ 0 := hu
        obtain ⟨b', o', e, _, hlt', _⟩ := hks.2 (by omega)
        have hA' : KA.map (·.block) = some u := hA
        rw [e] at hA'
        have : b' = u := by simpa using hA'
        omega
end
end Go.Proofs.Ytdgcoipflenlgaa
