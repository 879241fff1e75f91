import Derived.Test.YtolaojkcofbkhaaGreatFrameX
import Derived.Test.YtolaojkcofbkhaaGreatStGl
namespace Go.Proofs.YtolaojkcofbkhaaGreat
set_option maxRecDepth 100000
set_option maxHeartbeats 4000000
open Go.ChangeShapes Go.WideShapes Go.ChangeAt Go.RowKit
structure OpT where
 kind : Int
 i : Int
 fr : Int
 LA : Option Addr
 Ln : Nat
 Lc : Nat
 l : List Hc
 BA : Option Addr
 Bn : Nat
 Bc : Nat
 b : List UInt8
 KA : Option Addr
 Kn : Nat
 Kc : Nat
 ks : List Bool
 k : Ky
def OpT.cells (o : OpT) : List Value := [.int .i64 o.kind, .int .i64 o.i, .int .i64 o.fr, .slice o.LA o.Ln o.Lc, .slice o.BA o.Bn o.Bc, .slice o.KA o.Kn o.Kc, .int .i64 o.k.t, .int .i64 o.k.c, .int .i64 o.k.e]
structure OpT.ok (o : OpT) (w : World) (hi : Nat) : Prop where
 l : ChOn (fun b => b < hi) w o.LA o.Ln o.l
 lm : o.Ln ≤ 9223372036854775807
 b : Bts w 0 hi o.BA o.Bn o.b
 bc : o.Bn ≤ o.Bc
 bm : o.Bn ≤ maxLen
 k : Lst w 0 hi o.KA o.Kn (o.ks.map .bool)
 kw : o.k.wf
 k1 : i64ok o.kind
 i1 : i64ok o.i
 f1 : i64ok o.fr
 lc : o.Ln ≤ o.Lc
theorem OpT.ok.below {o : OpT} {w w' : World} {hi : Nat} (h : o.ok w hi) (hb : Below hi w w') : o.ok w' hi := ⟨h.l.keep hb.size fun b hb' _ => hb.block b hb', h.lm, h.b.below hb (nl _), h.bc, h.bm, h.k.below hb (nl _), h.kw, h.k1, h.i1, h.f1, h.lc⟩
def OpsT (w : World) (hi : Nat) (A : Option Addr) (n : Nat) : Prop := ∀ j, j < n → ∃ b off o, A = some ⟨b, off, none⟩ ∧ b < hi ∧ w.rangeAt b (off + j * 9) (OpT.cells o) ∧ o.ok w hi
section
variable {H : Type} {enc : TypeId × Value → H} {w : World}
theorem change_of {fuel : Nat} {cs : List Value} {x : DataW H × List MemPlace} (hl : cs.length = 6) (h : DataW.trod enc Tryz.prog w 0 (fun _ => true) true fuel 94 cs = some x) : ∃ o : Hc, cs = o.cells ∧ HcOk (fun b => b < w.heap.size) w o := by
 obtain ⟨xs, m, _, _, hcl, hxl, hf⟩ := DataW.trod_struct Tryz.underlying94 h
 match cs, hl with
 | [c0, c1, c2, c3, c4, c5], _ =>
  have hx4 : xs.length = 4 := hxl
  have g2 : Tryz.prog.cellsOf 51 = 1 := by kernel_rfl
  have g3 : Tryz.prog.cellsOf 9 = 1 := by kernel_rfl
  have g4 : Tryz.prog.cellsOf 4 = 1 := by kernel_rfl
  have f0 := hf 0 _ rfl
  have f1 := hf 1 _ rfl
  have f2 := hf 2 _ rfl
  have f3 := hf 3 _ rfl
  change DataW.trod enc Tryz.prog w 0 _ true m 9 (([c0, c1, c2, c3, c4, c5].drop 0).take (Tryz.prog.cellsOf 9)) = _ at f0
  change DataW.trod enc Tryz.prog w 0 _ true m 54 (([c0, c1, c2, c3, c4, c5].drop 1).take (Tryz.prog.cellsOf 54)) = _ at f1
  change DataW.trod enc Tryz.prog w 0 _ true m 51 (([c0, c1, c2, c3, c4, c5].drop 4).take (Tryz.prog.cellsOf 51)) = _ at f2
  change DataW.trod enc Tryz.prog w 0 _ true m 4 (([c0, c1, c2, c3, c4, c5].drop 5).take (Tryz.prog.cellsOf 4)) = _ at f3
  rw [g3] at f0
  rw [Tryz.cellsKey] at f1
  rw [g2] at f2
  rw [g4] at f3
  change DataW.trod enc Tryz.prog w 0 _ true m 9 [c0] = _ at f0
  change DataW.trod enc Tryz.prog w 0 _ true m 54 [c1, c2, c3] = _ at f1
  change DataW.trod enc Tryz.prog w 0 _ true m 51 [c4] = _ at f2
  change DataW.trod enc Tryz.prog w 0 _ true m 4 [c5] = _ at f3
  rw [List.getElem?_eq_getElem (by omega)] at f0 f1 f2 f3
  obtain ⟨s, e0, _, w0⟩ := DataW.trod_string Tryz.underlying9 f0
  obtain ⟨k, hk, hw⟩ := key_of f1
  obtain ⟨B, n, c, l, e2, hbc, hbt, hbm⟩ := bytes_of f2
  obtain ⟨q, e3, _⟩ := DataW.trod_bool Tryz.underlying4 f3
  injection e0 with e0
  injection e3 with e3
  have hk' : c1 = .int .i64 k.t ∧ c2 = .int .i64 k.c ∧ c3 = .int .i64 k.e := by
   simp only [Ky.cells, List.cons.injEq, and_true] at hk
   exact hk
  obtain ⟨rfl, rfl, rfl⟩ := hk'
  subst e0 e2 e3
  refine ⟨⟨s.data.toList, k, B, n, c, l, q⟩, ?_, ⟨hbt, fun hn q hq => ?_, hw, by show s.data.toList.length ≤ maxLen; rw [Array.length_toList]; exact w0, by unfold maxLen at hbm; show n ≤ _; omega⟩⟩
  · show _ = [Value.string (str s.data.toList), Value.int .i64 k.t, Value.int .i64 k.c, Value.int .i64 k.e, Value.slice B n c, Value.bool q]
    rw [str_of]
  · obtain ⟨b, off, e, _, h2, _⟩ := hbt.2 hn
    rw [e] at hq
    injection hq with hq
    subst hq
    exact h2
theorem slice_le {t e : TypeId} {fuel : Nat} {c0 : Value} {x : DataW H × List MemPlace} (ht : Tryz.prog.underlying t = some (.slice e)) (h : DataW.trod enc Tryz.prog w 0 (fun _ => true) true fuel t [c0] = some x) : ∀ A n c, c0 = .slice A n c → n ≤ c := by
 intro A n c e
 subst e
 rcases DataW.trod_slice ht h with ⟨hcs, _⟩ | ⟨a, l, k, elems, rest, m, _, hcs, _, _, hlk, _⟩
 · injection hcs with hcs
   injection hcs with _ h2 h3
   omega
 · injection hcs with hcs
   injection hcs with _ h2 h3
   omega
theorem changes_of {fuel : Nat} {c0 : Value} {x : DataW H × List MemPlace} (h : DataW.trod enc Tryz.prog w 0 (fun _ => true) true fuel 50 [c0] = some x) : ∃ (A : Option Addr) (n c : Nat) (l : List Hc), c0 = .slice A n c ∧ n ≤ 9223372036854775807 ∧ ChOn (fun b => b < w.heap.size) w A n l ∧ n ≤ c := by
 have hle := slice_le Tryz.underlying50 h
 have hs : ∃ A n c, c0 = Value.slice A n c := by
  rcases DataW.trod_slice Tryz.underlying50 h with ⟨hcs, _⟩ | ⟨x, l, c, elems, rest, n, _, hcs, _⟩
  · injection hcs with hcs; exact ⟨_, _, _, hcs⟩
  · injection hcs with hcs; exact ⟨_, _, _, hcs⟩
 obtain ⟨A, n, c, rfl⟩ := hs
 obtain ⟨d, p⟩ := x
 obtain ⟨h1, h2⟩ := elems_of (a := A) (len := n) (cap := c) Tryz.underlying50 (z := 6) (by kernel_rfl) (by decide) h
 have h3 : ∀ j, j < n → ∃ o : Hc, ∃ b off, A = some ⟨b, off, none⟩ ∧ b < w.heap.size ∧ w.rangeAt b (off + j * 6) o.cells ∧ HcOk (fun b => b < w.heap.size) w o := fun j hj => by
  obtain ⟨b, off, cs, k, y, hA, hb, hl, hr, ht⟩ := h2 j hj
  obtain ⟨o, rfl, ho⟩ := change_of hl ht
  exact ⟨o, b, off, hA, hb, hr, ho⟩
 have h4 : ∀ m, m ≤ n → ∃ l : List Hc, l.length = m ∧ ∀ j (hj : j < l.length), ∃ b off, A = some ⟨b, off, none⟩ ∧ b < w.heap.size ∧ w.rangeAt b (off + j * 6) l[j].cells ∧ HcOk (fun b => b < w.heap.size) w l[j] := by
  intro m
  induction m with
  | zero => exact fun _ => ⟨[], rfl, fun j hj => by cases hj⟩
  | succ m ih =>
   intro hm
   obtain ⟨l, hl, hq⟩ := ih (by omega)
   obtain ⟨o, ho⟩ := h3 m (by omega)
   refine ⟨l ++ [o], by simp [hl], fun j hj => ?_⟩
   rcases Nat.lt_or_ge j l.length with e | e
   · rw [List.getElem_append_left e]
     exact hq j e
   · have e2 : j = m := by simp at hj; omega
     subst e2
     rw [List.getElem_append_right e]
     simp only [hl, Nat.sub_self, List.getElem_cons_zero]
     exact ho
 obtain ⟨l, hl, hq⟩ := h4 n (nl _)
 refine ⟨A, n, c, l, rfl, h1, ⟨hl, fun j hj => ?_⟩, hle _ _ _ rfl⟩
 obtain ⟨b, off, a1, a2, a3, a4⟩ := hq j hj
 exact ⟨b, off, a1, a2, a2, a3, a4⟩
theorem opt_of {fuel : Nat} {cs : List Value} {x : DataW H × List MemPlace} (hl : cs.length = 9) (h : DataW.trod enc Tryz.prog w 0 (fun _ => true) true fuel 56 cs = some x) : ∃ o : OpT, cs = o.cells ∧ o.ok w w.heap.size := by
 obtain ⟨xs, m, _, _, hcl, hxl, hf⟩ := DataW.trod_struct Tryz.underlying56 h
 match cs, hl with
 | [c0, c1, c2, c3, c4, c5, c6, c7, c8], _ =>
  have hx7 : xs.length = 7 := hxl
  have g0 : Tryz.prog.cellsOf 3 = 1 := by kernel_rfl
  have g1 : Tryz.prog.cellsOf 50 = 1 := by kernel_rfl
  have g2 : Tryz.prog.cellsOf 51 = 1 := by kernel_rfl
  have g3 : Tryz.prog.cellsOf 52 = 1 := by kernel_rfl
  have f0 := hf 0 _ rfl
  have f1 := hf 1 _ rfl
  have f2 := hf 2 _ rfl
  have f3 := hf 3 _ rfl
  have f4 := hf 4 _ rfl
  have f5 := hf 5 _ rfl
  have f6 := hf 6 _ rfl
  change DataW.trod enc Tryz.prog w 0 _ true m 3 (([c0, c1, c2, c3, c4, c5, c6, c7, c8].drop 0).take (Tryz.prog.cellsOf 3)) = _ at f0
  change DataW.trod enc Tryz.prog w 0 _ true m 3 (([c0, c1, c2, c3, c4, c5, c6, c7, c8].drop 1).take (Tryz.prog.cellsOf 3)) = _ at f1
  change DataW.trod enc Tryz.prog w 0 _ true m 3 (([c0, c1, c2, c3, c4, c5, c6, c7, c8].drop 2).take (Tryz.prog.cellsOf 3)) = _ at f2
  change DataW.trod enc Tryz.prog w 0 _ true m 50 (([c0, c1, c2, c3, c4, c5, c6, c7, c8].drop 3).take (Tryz.prog.cellsOf 50)) = _ at f3
  change DataW.trod enc Tryz.prog w 0 _ true m 51 (([c0, c1, c2, c3, c4, c5, c6, c7, c8].drop 4).take (Tryz.prog.cellsOf 51)) = _ at f4
  change DataW.trod enc Tryz.prog w 0 _ true m 52 (([c0, c1, c2, c3, c4, c5, c6, c7, c8].drop 5).take (Tryz.prog.cellsOf 52)) = _ at f5
  change DataW.trod enc Tryz.prog w 0 _ true m 54 (([c0, c1, c2, c3, c4, c5, c6, c7, c8].drop 6).take (Tryz.prog.cellsOf 54)) = _ at f6
  rw [g0] at f0 f1 f2
  rw [g1] at f3
  rw [g2] at f4
  rw [g3] at f5
  rw [Tryz.cellsKey] at f6
  change DataW.trod enc Tryz.prog w 0 _ true m 3 [c0] = _ at f0
  change DataW.trod enc Tryz.prog w 0 _ true m 3 [c1] = _ at f1
  change DataW.trod enc Tryz.prog w 0 _ true m 3 [c2] = _ at f2
  change DataW.trod enc Tryz.prog w 0 _ true m 50 [c3] = _ at f3
  change DataW.trod enc Tryz.prog w 0 _ true m 51 [c4] = _ at f4
  change DataW.trod enc Tryz.prog w 0 _ true m 52 [c5] = _ at f5
  change DataW.trod enc Tryz.prog w 0 _ true m 54 [c6, c7, c8] = _ at f6
  rw [List.getElem?_eq_getElem (by omega)] at f0 f1 f2 f3 f4 f5 f6
  obtain ⟨k0, e0, _, w0⟩ := DataW.trod_int Tryz.underlying3 f0
  obtain ⟨k1, e1, _, w1⟩ := DataW.trod_int Tryz.underlying3 f1
  obtain ⟨k2, e2, _, w2⟩ := DataW.trod_int Tryz.underlying3 f2
  obtain ⟨LA, Ln, Lc, hl, e3, hlm, hlo, hlc⟩ := changes_of f3
  obtain ⟨B, n, c, l, e4, hbc, hbt, hbm⟩ := bytes_of f4
  obtain ⟨KA, Kn, Kc, ks, e5, hk, hks⟩ := bools_of Tryz.underlying52 Tryz.underlying4 (by kernel_rfl) f5
  obtain ⟨k, hk6, hw⟩ := key_of f6
  injection e0 with e0
  injection e1 with e1
  injection e2 with e2
  injection e5 with e5
  have hk' : c6 = .int .i64 k.t ∧ c7 = .int .i64 k.c ∧ c8 = .int .i64 k.e := by
   simp only [Ky.cells, List.cons.injEq, and_true] at hk6
   exact hk6
  obtain ⟨rfl, rfl, rfl⟩ := hk'
  subst e0 e1 e2 e3 e4 e5
  exact ⟨⟨k0, k1, k2, LA, Ln, Lc, hl, B, n, c, l, KA, Kn, Kc, ks, k⟩, rfl, ⟨hlo, hlm, hbt, hbc, hbm, hks, hw, wf_i64 w0, wf_i64 w1, wf_i64 w2, hlc⟩⟩
theorem optCap {fuel : Nat} {a : Option Addr} {len cap : Nat} {d : DataW H} {p : List MemPlace} (h : DataW.trod enc Tryz.prog w 0 (fun _ => true) true fuel 22 (Value.slice a len cap).cells.toList = some (d, p)) : len ≤ cap := slice_le Tryz.underlying22 (c0 := .slice a len cap) h _ _ _ rfl
theorem optArg {fuel : Nat} {a : Option Addr} {len cap : Nat} {d : DataW H} {p : List MemPlace} (h : DataW.trod enc Tryz.prog w 0 (fun _ => true) true fuel 22 (Value.slice a len cap).cells.toList = some (d, p)) : OpsT w w.heap.size a len ∧ len ≤ 9223372036854775807 := by
 obtain ⟨h1, h2⟩ := elems_of Tryz.underlying22 (z := 9) (by kernel_rfl) (by decide) h
 refine ⟨fun j hj => ?_, h1⟩
 obtain ⟨b, off, cs, n, x, hA, hb, hl, hr, ht⟩ := h2 j hj
 obtain ⟨o, rfl, ho⟩ := opt_of hl ht
 exact ⟨b, off, o, hA, hb, hr, ho⟩
end
open Go.RowKit
structure OpT.small (o : OpT) : Prop where
 l : o.Ln ≤ 20
 b : o.Bn ≤ 100
 k : o.Kn ≤ 100
 x : ∀ x ∈ o.l, x.nm.length ≤ 500 ∧ x.n ≤ 500
theorem long_c (o : OpT) (w : World) (hi : Nat) (ho : o.ok w hi) (hhi : hi ≤ w.heap.size) :
 Calls Tryz.prog 17 #[.agg #[.int .i64 o.kind, .int .i64 o.i, .int .i64 o.fr, .slice o.LA o.Ln o.Lc, .slice o.BA o.Bn o.Bc, .slice o.KA o.Kn o.Kc, .int .i64 o.k.t, .int .i64 o.k.c, .int .i64 o.k.e]] w fun e w' =>
  ∃ z : Int, e = .returned (.int .i64 z) ∧ Below w.heap.size w w' ∧ (z = 1000 ∨ ((0 ≤ z ∧ z ≤ 220) ∧ o.small)) := by
 obtain ⟨kind, i, fr, LA, n, Lc, l, BA, Bn, Bc, b, KA, Kn, Kc, ks, ky⟩ := o
 have HO := hid ho
 have HLN : Hid (l.length = n) := hid ho.l.len
 have HI := hid hhi
 clear ho hhi
 dsimp only
 go_enter Tryz.func17, Tryz.ntmps17
 have hb1 : Below w.heap.size w (w.alloc (.cells #[.int .i64 kind, .int .i64 i, .int .i64 fr, .slice LA n Lc, .slice BA Bn Bc, .slice KA Kn Kc, .int .i64 ky.t, .int .i64 ky.c, .int .i64 ky.e] 56)) := (Below.refl _ _).alloc (nl _) _
 have HB1 := hid hb1
 have hk1 := Blk.new w 56 #[.int .i64 kind, .int .i64 i, .int .i64 fr, .slice LA n Lc, .slice BA Bn Bc, .slice KA Kn Kc, .int .i64 ky.t, .int .i64 ky.c, .int .i64 ky.e]
 obtain ⟨y3, y4, y5⟩ := And.intro ((hk1.cell 3).trans rfl) (And.intro ((hk1.cell 4).trans rfl) ((hk1.cell 5).trans rfl))
 clear hb1 hk1
 by_cases h1 : n ≤ 20
 case neg =>
  have m1 : decide ((n : Int) > 20) = true := decide_eq_true (by omega)
  have m2 : decide ((20 : Int) < (n : Int)) = true := decide_eq_true (by omega)
  have m3 : decide (20 < n) = true := decide_eq_true (by omega)
  clear h1
  go_wp2
  go_ret
  exact ⟨1000, rfl, HB1.out, .inl rfl⟩
 have m1 : decide ((20 : Int) < (n : Int)) = false := decide_eq_false (by omega)
 have m3 : decide (20 < n) = false := decide_eq_false (by omega)
 have H1 := hid h1
 clear h1
 by_cases h2 : Bn ≤ 100
 case neg =>
  have n1 : decide ((100 : Int) < (Bn : Int)) = true := decide_eq_true (by omega)
  have n3 : decide (100 < Bn) = true := decide_eq_true (by omega)
  clear h2
  go_wp2
  go_ret
  exact ⟨1000, rfl, HB1.out, .inl rfl⟩
 have n1 : decide ((100 : Int) < (Bn : Int)) = false := decide_eq_false (by omega)
 have n3 : decide (100 < Bn) = false := decide_eq_false (by omega)
 have H2 := hid h2
 clear h2
 by_cases h3 : Kn ≤ 100
 case neg =>
  have p1 : decide ((100 : Int) < (Kn : Int)) = true := decide_eq_true (by omega)
  have p3 : decide (100 < Kn) = true := decide_eq_true (by omega)
  clear h3
  go_wp2
  go_ret
  exact ⟨1000, rfl, HB1.out, .inl rfl⟩
 have p1 : decide ((100 : Int) < (Kn : Int)) = false := decide_eq_false (by omega)
 have p3 : decide (100 < Kn) = false := decide_eq_false (by omega)
 have s1 : wrap64 ((n : Int) + (Bn : Int)) = ((n + Bn : Nat) : Int) := by have := H1.out; have := H2.out; unfold wrap64; omega
 have s2 : wrap64 (((n + Bn : Nat) : Int) + (Kn : Int)) = ((n + Bn + Kn : Nat) : Int) := by have := H1.out; have := H2.out; unfold wrap64; omega
 have s3 : wrap64 ((n : Int) + (Bn : Int) + (Kn : Int)) = ((n + Bn + Kn : Nat) : Int) := by have := H1.out; have := H2.out; unfold wrap64; omega
 have H3 := hid h3
 clear h3
 go_wp2_with fail
 clear s1 s2 s3 m1 m3 n1 n3 p1 p3 y3 y4 y5
 go_loopg [36] n (fun kk iv w2 => ∃ (j : Nat), iv = .int .i64 (j : Int) ∧ Hid (kk = n - j) ∧ Hid (j ≤ n) ∧ Hid (∀ x ∈ l.take j, x.nm.length ≤ 500 ∧ x.n ≤ 500) ∧ Hid (Below w.heap.size w w2))
 case atStart => exact ⟨0, rfl, hid (by omega), hid (Nat.zero_le _), hid (fun x hx => by simp at hx), HB1⟩
 case round =>
 obtain ⟨j, rfl, hgk, hj, hok, hB⟩ := hrel
 clear HB1
 have HN : Hid (n ≤ 1000) := hid (by have := H1.out; omega)
 rename World => w2
 rcases Nat.lt_or_ge j n with hlt | hge
 · have HJN := hid hlt
   have hjl : j < l.length := by rw [HLN.out]; exact hlt
   have j1 : (0 : Int) ≤ (j : Int) := by omega
   have j2 : (j : Int) < (n : Int) := by omega
   have j3 : decide ((j : Int) < (n : Int)) = true := by simpa using hlt
   have j4 : decide (j < n) = true := by simpa using hlt
   have wj : wrap64 ((j : Int) + 1) = ((j + 1 : Nat) : Int) := by have := HN.out; unfold wrap64; omega
   obtain ⟨lb, off, rfl, -, hbl, hr0, hx0⟩ := (HO.out.l.keep hB.out.size (fun q hq _ => hB.out.block q (Nat.lt_of_lt_of_le hq HI.out))).at_ hjl
   have HX := hid hx0
   have HXM := hid (List.getElem_mem hjl)
   have HTK := hid (List.take_succ_eq_append_getElem hjl)
   generalize l[j] = x at *
   obtain ⟨c0, c1, c2, c3, c4, c5⟩ := range6 hr0
   have hb2 : Below w2.heap.size w2 (w2.alloc (.cells #[.string (str (x).nm), .int .i64 (x).k.t, .int .i64 (x).k.c, .int .i64 (x).k.e, .slice (x).A (x).n (x).c, .bool (x).dr] 94)) := (Below.refl _ _).alloc (nl _) _
   have HB2 := hid (hB.out.trans (hb2.mono hB.out.size))
   have hk2 := Blk.new w2 94 #[.string (str (x).nm), .int .i64 (x).k.t, .int .i64 (x).k.c, .int .i64 (x).k.e, .slice (x).A (x).n (x).c, .bool (x).dr]
   obtain ⟨x0, x1, x2, x3, x4, x5⟩ := hcB_cells (x := x) hk2
   clear hlt hjl hbl hr0 hx0 hb2 hB hk2
   by_cases h5 : 500 < max x.nm.length x.n
   · have q2 : decide ((500 : Int) < max ((str x.nm).size : Int) (x.n : Int)) = true := decide_eq_true (by rw [str_size]; omega)
     clear h5
     go_wp2
     go_ret
     exact ⟨1000, rfl, HB2.out, .inl rfl⟩
   · have q2 : decide ((500 : Int) < max ((str x.nm).size : Int) (x.n : Int)) = false := decide_eq_false (by rw [str_size]; omega)
     have HOK : Hid (∀ y ∈ l.take (j + 1), y.nm.length ≤ 500 ∧ y.n ≤ 500) := hid (fun y hy => by
      rw [HTK.out, List.mem_append, List.mem_singleton] at hy
      rcases hy with hy | hy
      · exact hok.out y hy
      · rw [hy]; omega)
     clear h5 hok
     go_wp2_with fail
     go_roundg (n - (j + 1))
     case measure => have := hgk.out; have := HJN.out; omega
     case rel => exact ⟨j + 1, by first | rfl | rw [wj], hid rfl, hid HJN.out, HOK, HB2⟩
 · have hjn : j = n := by have := hj.out; omega
   subst hjn
   have j2 : ¬ (j : Int) < (j : Int) := by omega
   have HT : Hid (l.take j = l) := hid (by rw [← HLN.out, List.take_length])
   have HOK : Hid (∀ y ∈ l, y.nm.length ≤ 500 ∧ y.n ≤ 500) := hid (by have := hok.out; rwa [HT.out] at this)
   clear hge hj hgk hok HT
   go_wp2
   go_ret
   exact ⟨_, rfl, hB.out, .inr ⟨by have := H1.out; have := H2.out; have := H3.out; unfold wrap64; omega, H1.out, H2.out, H3.out, HOK.out⟩⟩
end Go.Proofs.YtolaojkcofbkhaaGreat
