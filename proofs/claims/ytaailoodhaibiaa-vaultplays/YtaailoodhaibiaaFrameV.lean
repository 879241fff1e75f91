/- The frame of a law's proof, further: keys, rows of keys, rows of rows of bytes, the scripts' operations on a vault, that came in. -/
import Derived.Test.YtaailoodhaibiaaFrame
import Derived.Test.YtaailoodhaibiaaVtFirst
namespace Go.Proofs.Ytaailoodhaibiaa
open Go.ChangeShapes Go.WideShapes Go.ChangeAt Go.RowKit

/-- An operation of a script, by its parts. -/
structure OpW where
  kind : Int
  k : Ky
  b : List UInt8
  A : Option Addr
  n : Nat
  c : Nat
  p : List UInt8
  H : Nat
def OpW.cells (o : OpW) : List Value := [.int .i64 o.kind, .int .i64 o.k.t, .int .i64 o.k.c, .int .i64 o.k.e, .string (str o.b), .slice o.A o.n o.c, .int .u64 (o.H : Int)]
structure OpW.ok (o : OpW) (w : World) (hi : Nat) : Prop where
  p : Bts w 0 hi o.A o.n o.p
  pc : o.n ≤ o.c
  k1 : -9223372036854775808 ≤ o.kind ∧ o.kind ≤ 9223372036854775807
  k : o.k.wf
  b : o.b.length ≤ maxLen
  H : o.H < 18446744073709551616
  pm : o.n ≤ maxLen
theorem OpW.ok.below {o : OpW} {w w' : World} {hi : Nat} (h : o.ok w hi) (hb : Below hi w w') : o.ok w' hi := ⟨h.p.below hb (Nat.le_refl _), h.pc, h.k1, h.k, h.b, h.H, h.pm⟩
/-- A row of n operations at A, all that it holds in blocks below hi. -/
def OpsW (w : World) (hi : Nat) (A : Option Addr) (n : Nat) : Prop := ∀ j, j < n → ∃ b off o, A = some ⟨b, off, none⟩ ∧ b < hi ∧ w.rangeAt b (off + j * 7) (OpW.cells o) ∧ o.ok w hi
def Ky.cells (k : Ky) : List Value := [.int .i64 k.t, .int .i64 k.c, .int .i64 k.e]
/-- A row of keys. -/
def KeysW (w : World) (hi : Nat) (A : Option Addr) (n : Nat) : Prop := ∀ j, j < n → ∃ b off k, A = some ⟨b, off, none⟩ ∧ b < hi ∧ w.rangeAt b (off + j * 3) (Ky.cells k) ∧ k.wf
/-- A row of rows of bytes. -/
def RowsW (w : World) (hi : Nat) (A : Option Addr) (n : Nat) : Prop := ∀ j, j < n → ∃ b off B m c l, A = some ⟨b, off, none⟩ ∧ b < hi ∧ w.cell? ⟨b, off + j, none⟩ = some (.slice B m c) ∧ Bts w 0 hi B m l ∧ m ≤ c ∧ m ≤ maxLen

section
variable {H : Type} {enc : TypeId × Value → H} {w : World}
theorem bytes_of {fuel : Nat} {c2 : Value} {x : DataW H × List MemPlace} (f2 : DataW.trod enc Try.prog w 0 (fun _ => true) true fuel 33 [c2] = some x) : ∃ BA Bn Bc l, c2 = Value.slice BA Bn Bc ∧ Bn ≤ Bc ∧ Bts w 0 w.heap.size BA Bn l ∧ Bn ≤ maxLen := by
  rcases open_ints Try.underlying33 Try.underlying5 (by kernel_rfl) f2 with ⟨hcs, _⟩ | ⟨y, l, c, zs, hcs, _, hl, hm, hz, hx, hcell, hwz⟩
  · injection hcs with hcs
    exact ⟨none, 0, 0, [], hcs, Nat.le_refl _, Bts.nil _ _ _ _, Nat.zero_le _⟩
  · have hz' : zs.length = c := by simpa using hz
    obtain ⟨bl, hbl, _⟩ := argB (w := w) (a := some y) (len := l) (cap := c) (zs := zs) (.inr ⟨_, rfl, hl, hm, hz', fun h0 => by
      have hc0 := hcell 0 (by omega)
      rw [add_zero_] at hc0
      exact block_lt hc0, hcell, hwz⟩)
    injection hcs with hcs
    exact ⟨some y, l, c, bl, hcs, hl, hbl, by omega⟩
theorem key_of {fuel : Nat} {c0 c1 c2 : Value} {x : DataW H × List MemPlace} (h : DataW.trod enc Try.prog w 0 (fun _ => true) true fuel 32 [c0, c1, c2] = some x) : ∃ k : Ky, [c0, c1, c2] = k.cells ∧ k.wf := by
  obtain ⟨xs, m, _, _, hcl, hxl, hf⟩ := DataW.trod_struct Try.underlying32 h
  have hx3 : xs.length = 3 := hxl
  have f0 := hf 0 _ rfl
  have f1 := hf 1 _ rfl
  have f2 := hf 2 _ rfl
  change DataW.trod enc Try.prog w 0 _ true m 3 (([c0, c1, c2].drop 0).take (Try.prog.cellsOf 3)) = _ at f0
  change DataW.trod enc Try.prog w 0 _ true m 3 (([c0, c1, c2].drop 1).take (Try.prog.cellsOf 3)) = _ at f1
  change DataW.trod enc Try.prog w 0 _ true m 3 (([c0, c1, c2].drop 2).take (Try.prog.cellsOf 3)) = _ at f2
  rw [Try.cellsInt] at f0 f1 f2
  change DataW.trod enc Try.prog w 0 _ true m 3 [c0] = _ at f0
  change DataW.trod enc Try.prog w 0 _ true m 3 [c1] = _ at f1
  change DataW.trod enc Try.prog w 0 _ true m 3 [c2] = _ at f2
  rw [List.getElem?_eq_getElem (by omega)] at f0 f1 f2
  obtain ⟨k0, e0, _, w0⟩ := DataW.trod_int Try.underlying3 f0
  obtain ⟨k1, e1, _, w1⟩ := DataW.trod_int Try.underlying3 f1
  obtain ⟨k2, e2, _, w2⟩ := DataW.trod_int Try.underlying3 f2
  injection e0 with e0
  injection e1 with e1
  injection e2 with e2
  subst e0 e1 e2
  exact ⟨⟨k0, k1, k2⟩, rfl, wf_i64 w0, wf_i64 w1, wf_i64 w2⟩
/-- The elements of a slice of structs that came in: each read by itself. -/
theorem elems_of {t e : TypeId} {z fuel : Nat} {a : Option Addr} {len cap : Nat} {d : DataW H} {p : List MemPlace} (ht : Try.prog.underlying t = some (.slice e)) (hz : Try.prog.cellsOf e = z) (hz1 : 0 < z)
    (h : DataW.trod enc Try.prog w 0 (fun _ => true) true fuel t (Value.slice a len cap).cells.toList = some (d, p)) :
    len ≤ 9223372036854775807 ∧ ∀ j, j < len → ∃ b off cs n x, a = some ⟨b, off, none⟩ ∧ b < w.heap.size ∧ cs.length = z ∧ w.rangeAt b (off + j * z) cs ∧ DataW.trod enc Try.prog w 0 (fun _ => true) true n e cs = some x := by
  rcases DataW.trod_slice ht h with ⟨hcs, _⟩ | ⟨x, l, c, elems, rest, n, _, hcs, _, _, hl, hmx, hlen, hel, _⟩
  · simp [Value.cells] at hcs
    obtain ⟨rfl, rfl, rfl⟩ := hcs
    exact ⟨by decide, fun j hj => absurd hj (by omega)⟩
  · simp [Value.cells] at hcs
    obtain ⟨rfl, rfl, rfl⟩ := hcs
    rw [hz] at hel
    refine ⟨by unfold maxLen at hmx; omega, fun j hj => ?_⟩
    have hj' := hel j hj
    rw [List.getElem?_eq_getElem (by omega)] at hj'
    obtain ⟨cs, hc1, hc2⟩ := Option.bind_eq_some_iff.1 hj'
    obtain ⟨_, hcl, hcell⟩ := World.cells?_some hc1
    have hj0 := hel 0 (by omega)
    rw [List.getElem?_eq_getElem (by omega)] at hj0
    obtain ⟨cs0, hc10, _⟩ := Option.bind_eq_some_iff.1 hj0
    obtain ⟨_, hcl0, hcell0⟩ := World.cells?_some hc10
    have hs0 := hcell0 0 (by omega)
    rw [Nat.zero_mul, add_zero_, add_zero_, List.getElem?_eq_getElem (by omega)] at hs0
    have hsp := World.cell?_spot hs0
    obtain ⟨b, off, spot⟩ := x
    have hsp' : spot = none := hsp
    subst hsp'
    have h00 := hcell 0 (by omega)
    rw [List.getElem?_eq_getElem (by omega)] at h00
    have hlt := block_lt h00
    rw [add_plain, add_plain] at hlt
    refine ⟨b, off, cs, n, _, rfl, hlt, by omega, fun t v hv => ?_, hc2⟩
    have ht' : t < z := by have := (List.getElem?_eq_some_iff.1 hv).1; omega
    have := hcell t (by omega)
    rw [add_plain, add_plain] at this
    rw [this]
    exact hv
theorem keysArg {fuel : Nat} {a : Option Addr} {len cap : Nat} {d : DataW H} {p : List MemPlace} (h : DataW.trod enc Try.prog w 0 (fun _ => true) true fuel 28 (Value.slice a len cap).cells.toList = some (d, p)) : KeysW w w.heap.size a len ∧ len ≤ 9223372036854775807 := by
  obtain ⟨h1, h2⟩ := elems_of Try.underlying28 Try.cellsKey (by decide) h
  refine ⟨fun j hj => ?_, h1⟩
  obtain ⟨b, off, cs, n, x, hA, hb, hl, hr, ht⟩ := h2 j hj
  match cs, hl with
  | [c0, c1, c2], _ =>
    obtain ⟨k, hk, hw⟩ := key_of ht
    rw [hk] at hr
    exact ⟨b, off, k, hA, hb, hr, hw⟩
theorem rowsArg {fuel : Nat} {a : Option Addr} {len cap : Nat} {d : DataW H} {p : List MemPlace} (h : DataW.trod enc Try.prog w 0 (fun _ => true) true fuel 55 (Value.slice a len cap).cells.toList = some (d, p)) : RowsW w w.heap.size a len ∧ len ≤ 9223372036854775807 := by
  obtain ⟨h1, h2⟩ := elems_of Try.underlying55 (z := 1) (by kernel_rfl) (by decide) h
  refine ⟨fun j hj => ?_, h1⟩
  obtain ⟨b, off, cs, n, x, hA, hb, hl, hr, ht⟩ := h2 j hj
  match cs, hl with
  | [c0], _ =>
    obtain ⟨B, m, c, l, rfl, h3, h4, h5⟩ := bytes_of ht
    have := hr 0 _ rfl
    rw [Nat.mul_one, Nat.add_zero] at this
    exact ⟨b, off, B, m, c, l, hA, hb, this, h4, h3, h5⟩
theorem op_of {fuel : Nat} {cs : List Value} {x : DataW H × List MemPlace} (hl : cs.length = 7) (h : DataW.trod enc Try.prog w 0 (fun _ => true) true fuel 36 cs = some x) : ∃ o : OpW, cs = o.cells ∧ o.ok w w.heap.size := by
  obtain ⟨xs, m, _, _, hcl, hxl, hf⟩ := DataW.trod_struct Try.underlying36 h
  match cs, hl with
  | [c0, c1, c2, c3, c4, c5, c6], _ =>
    have hx5 : xs.length = 5 := hxl
    have g2 : Try.prog.cellsOf 33 = 1 := by kernel_rfl
    have g3 : Try.prog.cellsOf 9 = 1 := by kernel_rfl
    have g4 : Try.prog.cellsOf 34 = 1 := by kernel_rfl
    have f0 := hf 0 _ rfl
    have f1 := hf 1 _ rfl
    have f2 := hf 2 _ rfl
    have f3 := hf 3 _ rfl
    have f4 := hf 4 _ rfl
    change DataW.trod enc Try.prog w 0 _ true m 3 (([c0, c1, c2, c3, c4, c5, c6].drop 0).take (Try.prog.cellsOf 3)) = _ at f0
    change DataW.trod enc Try.prog w 0 _ true m 32 (([c0, c1, c2, c3, c4, c5, c6].drop 1).take (Try.prog.cellsOf 32)) = _ at f1
    change DataW.trod enc Try.prog w 0 _ true m 9 (([c0, c1, c2, c3, c4, c5, c6].drop 4).take (Try.prog.cellsOf 9)) = _ at f2
    change DataW.trod enc Try.prog w 0 _ true m 33 (([c0, c1, c2, c3, c4, c5, c6].drop 5).take (Try.prog.cellsOf 33)) = _ at f3
    change DataW.trod enc Try.prog w 0 _ true m 34 (([c0, c1, c2, c3, c4, c5, c6].drop 6).take (Try.prog.cellsOf 34)) = _ at f4
    rw [Try.cellsInt] at f0
    rw [Try.cellsKey] at f1
    rw [g3] at f2
    rw [g2] at f3
    rw [g4] at f4
    change DataW.trod enc Try.prog w 0 _ true m 3 [c0] = _ at f0
    change DataW.trod enc Try.prog w 0 _ true m 32 [c1, c2, c3] = _ at f1
    change DataW.trod enc Try.prog w 0 _ true m 9 [c4] = _ at f2
    change DataW.trod enc Try.prog w 0 _ true m 33 [c5] = _ at f3
    change DataW.trod enc Try.prog w 0 _ true m 34 [c6] = _ at f4
    rw [List.getElem?_eq_getElem (by omega)] at f0 f1 f2 f3 f4
    obtain ⟨k0, e0, _, w0⟩ := DataW.trod_int Try.underlying3 f0
    obtain ⟨k, hk, hw⟩ := key_of f1
    obtain ⟨s, e2, _, w2⟩ := DataW.trod_string Try.underlying9 f2
    obtain ⟨B, n, c, l, e3, hbc, hbt, hbm⟩ := bytes_of f3
    obtain ⟨k4, e4, _, w4⟩ := DataW.trod_int Try.underlying34 f4
    injection e0 with e0
    injection e2 with e2
    injection e4 with e4
    have hH := wf_u64 w4
    have hk' : c1 = .int .i64 k.t ∧ c2 = .int .i64 k.c ∧ c3 = .int .i64 k.e := by
      simp only [Ky.cells, List.cons.injEq, and_true] at hk
      exact hk
    obtain ⟨rfl, rfl, rfl⟩ := hk'
    subst e0 e2 e3 e4
    refine ⟨⟨k0, k, s.data.toList, B, n, c, l, k4.toNat⟩, ?_, ⟨hbt, hbc, wf_i64 w0, hw, by show s.data.toList.length ≤ maxLen; rw [Array.length_toList]; exact w2, by show k4.toNat < _; omega, hbm⟩⟩
    show _ = [Value.int .i64 k0, Value.int .i64 k.t, Value.int .i64 k.c, Value.int .i64 k.e, Value.string (str s.data.toList), Value.slice B n c, Value.int .u64 ((k4.toNat : Nat) : Int)]
    rw [str_of, show ((k4.toNat : Nat) : Int) = k4 by omega]
theorem opsArg {fuel : Nat} {a : Option Addr} {len cap : Nat} {d : DataW H} {p : List MemPlace} (h : DataW.trod enc Try.prog w 0 (fun _ => true) true fuel 22 (Value.slice a len cap).cells.toList = some (d, p)) : OpsW w w.heap.size a len ∧ len ≤ 9223372036854775807 := by
  obtain ⟨h1, h2⟩ := elems_of Try.underlying22 (z := 7) (by kernel_rfl) (by decide) h
  refine ⟨fun j hj => ?_, h1⟩
  obtain ⟨b, off, cs, n, x, hA, hb, hl, hr, ht⟩ := h2 j hj
  obtain ⟨o, rfl, ho⟩ := op_of hl ht
  exact ⟨b, off, o, hA, hb, hr, ho⟩
theorem opArg {r : Reach} {b0 : Nat} {v : Value} {d : DataW H} {p : List MemPlace} (hv : Value.okWide Try.prog w r b0 36 v) (h : DataW.Trod enc Try.prog w 0 (fun _ => true) true 36 v d p) : ∃ o : OpW, v = .agg o.cells.toArray ∧ o.ok w w.heap.size := by
  simp only [Value.okWide, Try.underlying36] at hv
  obtain ⟨cs, rfl, hsz, _⟩ := hv
  obtain ⟨fuel, hf⟩ := h
  have hc : Try.prog.cellsOf 36 = 7 := by kernel_rfl
  obtain ⟨o, ho, hok⟩ := op_of (cs := cs.toList) (by rw [Array.length_toList, hsz, hc]) (by simpa [Value.cells] using hf)
  exact ⟨o, by rw [← ho], hok⟩
theorem keyArg {r : Reach} {b0 : Nat} {v : Value} {d : DataW H} {p : List MemPlace} (hv : Value.okWide Try.prog w r b0 32 v) (h : DataW.Trod enc Try.prog w 0 (fun _ => true) true 32 v d p) : ∃ k : Ky, v = (.agg #[.int .i64 (k).t, .int .i64 (k).c, .int .i64 (k).e]) ∧ k.wf := by
  simp only [Value.okWide, Try.underlying32] at hv
  obtain ⟨cs, rfl, hsz, _⟩ := hv
  obtain ⟨fuel, hf⟩ := h
  rw [Try.cellsKey] at hsz
  have hl : cs.toList.length = 3 := by rw [Array.length_toList, hsz]
  have hf' : DataW.trod enc Try.prog w 0 (fun _ => true) true fuel 32 cs.toList = some (d, p) := by simpa [Value.cells] using hf
  match hcs : cs.toList, hl with
  | [c0, c1, c2], _ =>
    rw [hcs] at hf'
    obtain ⟨k, hk, hw⟩ := key_of hf'
    refine ⟨k, ?_, hw⟩
    rw [show cs = #[c0, c1, c2] from Array.toList_inj.1 hcs]
    simp only [Ky.cells, List.cons.injEq, and_true] at hk
    rw [hk.1, hk.2.1, hk.2.2]
end
end Go.Proofs.Ytaailoodhaibiaa
