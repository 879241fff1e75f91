/- How a vault lies in memory: its own block, the row of what was sealed, the bytes of each, the map of the keys that are destroyed; what a call may turn of it. Nothing is assumed. -/
import Derived.Test.YtaailoodhaibiaaVtMath
import Derived.Test.YtaailoodhaibiaaMem
import Derived.Maps.OwnSet
import Derived.DeepKeys4
namespace Go.Proofs.Ytaailoodhaibiaa
open Go.RowKit

theorem Try.laidOutV : laidOutB Try.prog = true := by kernel_rfl
theorem Try.rowKey : (32 : TypeId) < Try.prog.types.size := of_decide_eq_true (by kernel_rfl)
theorem Try.wideKey : (match Try.prog.underlying 32 with | some (.array _ _) | some (.struct _) => true | _ => false) = true := by rw [Try.underlying32]
theorem Try.lawKey : Maps.Keyed Try.prog 32 := Maps.Keyed.of_law (deep_law_laid Try.laidOutV (m := 2) (by omega) Try.rowKey (by kernel_rfl) Try.wideKey)
theorem Try.keyTypeKey : Try.prog.keyType 32 = true := by kernel_rfl
theorem Try.cellsKey : Try.prog.cellsOf 32 = 3 := by kernel_rfl
theorem Try.cellsInt : Try.prog.cellsOf 3 = 1 := by kernel_rfl

theorem wfI {a : Int} (h : -9223372036854775808 ≤ a ∧ a ≤ 9223372036854775807) : (Lit.int .i64 a).wf = true := by simp [Lit.wf, IntKind.min, IntKind.max, IntKind.signed, IntKind.bits]; omega
theorem lits_int (d : Nat) (a : Int) (h : -9223372036854775808 ≤ a ∧ a ≤ 9223372036854775807) : Try.prog.keyLits (d + 1) 3 [.int .i64 a] = some [.int .i64 a] := by
  unfold Program.keyLits
  rw [Try.underlying3]
  simp [wfI h]
theorem lits_key (d : Nat) (k : Ky) (h : k.wf) : Try.prog.keyLits (d + 2) 32 [.int .i64 k.t, .int .i64 k.c, .int .i64 k.e] = some [.int .i64 k.t, .int .i64 k.c, .int .i64 k.e] := by
  unfold Program.keyLits
  rw [Try.underlying32]
  simp [Try.cellsKey, Try.cellsInt, lits_int d k.t h.1, lits_int d k.c h.2.1, lits_int d k.e h.2.2]
/-- A key, as a map's key. -/
def klit (k : Ky) : Lit := .string (keyBytes [.int .i64 k.t, .int .i64 k.c, .int .i64 k.e])
theorem key_is (k : Ky) (h : k.wf) : keyOf Try.prog 32 (.agg #[.int .i64 (k).t, .int .i64 (k).c, .int .i64 (k).e]) = some (klit k) := by
  have hf : (Value.agg #[.int .i64 k.t, .int .i64 k.c, .int .i64 k.e]).formed Try.prog 32 = true := by simp [Value.formed, Try.underlying32, Try.cellsKey]
  obtain ⟨d, hd⟩ : ∃ d, Try.prog.types.size + 1 = d + 2 := ⟨Try.prog.types.size - 1, by have h : (32 : Nat) < Try.prog.types.size := Try.rowKey; omega⟩
  have hl : Try.prog.keyLits (Try.prog.types.size + 1) 32 (Value.agg #[.int .i64 k.t, .int .i64 k.c, .int .i64 k.e]).cells.toList = some [.int .i64 k.t, .int .i64 k.c, .int .i64 k.e] := by rw [hd]; exact lits_key d k h
  unfold keyOf
  rw [Try.underlying32]
  simp only [Try.keyTypeKey, hf, Bool.and_self, if_true, hl, Option.map_some, klit]
theorem klit_inj {a b : Ky} (ha : a.wf) (hb : b.wf) (h : klit a = klit b) : a = b := by
  have h1 := key_is a ha
  rw [h] at h1
  have := Try.lawKey.inj h1 (key_is b hb)
  injection this with this
  have := congrArg Array.toList this
  simp at this
  exact Ky.ext' this.1 this.2.1 this.2.2
theorem klit_key (k : Ky) : WideAt.IsKeyLit (klit k) := trivial

/-- What a vault keeps of a handle, as it lies. -/
structure Ep where
  k : Ky
  b : List UInt8
  p : List UInt8
  A : Option Addr
  c : Nat
def Ep.en (x : Ep) : En := ⟨x.k, x.b, x.p⟩
def Ep.cells (x : Ep) : List Value := [.int .i64 x.k.t, .int .i64 x.k.c, .int .i64 x.k.e, .string (str x.b), .slice x.A x.p.length x.c]
def ecs (es : List Ep) : List Value := es.flatMap Ep.cells
theorem ecs_app (a b : List Ep) : ecs (a ++ b) = ecs a ++ ecs b := by simp [ecs]
theorem ecs_one (x : Ep) : ecs [x] = x.cells := by simp [ecs]
theorem ecs_len (es : List Ep) : (ecs es).length = es.length * 5 := by
  induction es with
  | nil => rfl
  | cons x r ih =>
    show (x.cells ++ ecs r).length = _
    rw [List.length_append, ih]
    simp [Ep.cells]
    omega
theorem ep_cell (x : Ep) : ∀ u ∈ x.cells, u.oneCell' = true := by
  intro u hu
  simp only [Ep.cells, List.mem_cons, List.not_mem_nil, or_false] at hu
  rcases hu with rfl | rfl | rfl | rfl | rfl <;> rfl
theorem ecs_split (es : List Ep) {j : Nat} (hj : j < es.length) : ecs es = ecs (es.take j) ++ (es[j].cells ++ ecs (es.drop (j + 1))) := by
  conv => lhs; rw [show es = es.take j ++ (es[j] :: es.drop (j + 1)) by simp]
  rw [ecs_app]
  rfl
theorem ecs_at (es : List Ep) {j : Nat} (hj : j < es.length) : ∀ t u, es[j].cells[t]? = some u → (ecs es)[j * 5 + t]? = some u := by
  intro t u hu
  have hl : (ecs (es.take j)).length = j * 5 := by
    rw [ecs_len, List.length_take]
    have : min j es.length = j := by omega
    rw [this]
  have ht := (List.getElem?_eq_some_iff.1 hu).1
  rw [ecs_split es hj, List.getElem?_append_right (by omega), List.getElem?_append_left (by rw [hl]; simp only [Nat.add_sub_cancel_left]; exact ht), hl, Nat.add_sub_cancel_left]
  exact hu

/-- A vault in block g, by what it is; all its blocks are of F. -/
structure VaAt (w : World) (F : Nat → Prop) (g : Nat) (s : Va) (m : Nat) (A : Option Addr) (c : Nat) (es : List Ep) : Prop where
  blk : Blk w g 61 #[.slice A es.length c, .map (some m)]
  row : w.ownsRow 0 65 5 (.slice A es.length c) es.length (ecs es)
  ens : es.map Ep.en = s.L
  bts : ∀ x ∈ es, Bts w 0 w.heap.size x.A x.p.length x.p ∧ x.p.length ≤ 65536 ∧ ∀ u, x.A.map (·.block) = some u → F u ∧ u ≠ g ∧ u ≠ m ∧ A.map (·.block) ≠ some u
  map : ∃ n D, w.ownsMap (H := Unit) Try.prog 32 unitElem m n D ∧ n ≤ s.G.length ∧ ∀ k : Ky, k.wf → Maps.has D (klit k) = decide (k ∈ s.G)
  gm : g ≠ m
  Ag : ∀ b, A.map (·.block) = some b → b ≠ g ∧ b ≠ m ∧ F b
  Fg : F g
  Fm : F m
  F : ∀ j, F j → j < w.heap.size
def Vlt (w : World) (F : Nat → Prop) (g : Nat) (s : Va) : Prop := ∃ m A c es, VaAt w F g s m A c es

section
variable {w w' : World} {F G : Nat → Prop} {g : Nat} {s : Va} {m c : Nat} {A : Option Addr} {es : List Ep}
theorem VaAt.len (h : VaAt w F g s m A c es) : es.length = s.L.length := by rw [← h.ens, List.length_map]
theorem VaAt.cells (h : VaAt w F g s m A c es) : w.cell? ⟨g, 0, none⟩ = some (.slice A es.length c) ∧ w.cell? ⟨g, 1, none⟩ = some (.map (some m)) := by
  have h0 := h.blk.cell 0
  have h1 := h.blk.cell 1
  simp at h0 h1
  exact ⟨h0, h1⟩
theorem ownsMap_keep {P : Program} {k : TypeId} {R : Value → Option (DataW Unit × List MemPlace)} {b n : Nat} {D : DataW Unit} (h : w.ownsMap P k R b n D) (hk : w'.heap[b]? = w.heap[b]?) : w'.ownsMap P k R b n D := by
  obtain ⟨es, clock, hb, r⟩ := h
  exact ⟨es, clock, hk.trans hb, r⟩
theorem VaAt.keep (h : VaAt w F g s m A c es) (hs : w.heap.size ≤ w'.heap.size) (hk : ∀ j, F j → w'.heap[j]? = w.heap[j]?) : VaAt w' F g s m A c es :=
  ⟨h.blk.keep (hk g h.Fg), own_keep h.row fun b hb => hk b (h.Ag b hb).2.2, h.ens, fun x hx => ⟨(h.bts x hx).1.at1 hs fun u hu => hk u ((h.bts x hx).2.2 u hu).1, (h.bts x hx).2⟩,
    (by obtain ⟨n, D, h1, h2⟩ := h.map; exact ⟨n, D, ownsMap_keep h1 (hk m h.Fm), h2⟩), h.gm, h.Ag, h.Fg, h.Fm, fun j hj => Nat.lt_of_lt_of_le (h.F j hj) hs⟩
theorem VaAt.bel (h : VaAt w F g s m A c es) (hb : Below w.heap.size w w') : VaAt w' F g s m A c es := h.keep hb.size fun j hj => hb.block j (h.F j hj)
theorem Vlt.keep (h : Vlt w F g s) (hs : w.heap.size ≤ w'.heap.size) (hk : ∀ j, F j → w'.heap[j]? = w.heap[j]?) : Vlt w' F g s := by
  obtain ⟨m, A, c, es, h⟩ := h
  exact ⟨m, A, c, es, h.keep hs hk⟩
theorem Vlt.lt (h : Vlt w F g s) : ∀ j, F j → j < w.heap.size := by
  obtain ⟨m, A, c, es, h⟩ := h
  exact h.F
theorem Vlt.bel (h : Vlt w F g s) (hb : Below w.heap.size w w') : Vlt w' F g s := h.keep hb.size fun j hj => hb.block j (h.lt j hj)
theorem Vlt.kp (h : Vlt w F g s) (hk : Kp G w w') (hap : ∀ j, F j → ¬ G j) : Vlt w' F g s := h.keep hk.size fun j hj => hk.block j (h.lt j hj) (hap j hj)
/-- What a call leaves of a vault. -/
def VLeft (w w' : World) (F : Nat → Prop) (g : Nat) (s : Va) : Prop := ∃ F' : Nat → Prop, Vlt w' F' g s ∧ Kp F w w' ∧ ∀ j, F' j → F j ∨ w.heap.size ≤ j
theorem VLeft.same (h : Vlt w F g s) (hb : Below w.heap.size w w') : VLeft w w' F g s := ⟨F, h.bel hb, Kp.ofBelow hb, fun _ hj => .inl hj⟩
theorem VLeft.after {w1 w2 : World} (hb : Below w.heap.size w w1) (h : VLeft w1 w2 F g s) : VLeft w w2 F g s := by
  obtain ⟨F2, hd, hk2, hF2⟩ := h
  exact ⟨F2, hd, (Kp.ofBelow hb).trans hk2, fun j hj => by
    rcases hF2 j hj with e | e
    · exact .inl e
    · exact .inr (Nat.le_trans hb.size e)⟩
end

/-- Is a key destroyed? The map's answer. -/
theorem VaAt.look {w : World} {F : Nat → Prop} {g : Nat} {s : Va} {m c : Nat} {A : Option Addr} {es : List Ep} (h : VaAt w F g s m A c es) (k : Ky) (hk : k.wf) :
    (Instr.lookup 58 (.map (some m)) (.agg #[.int .i64 (k).t, .int .i64 (k).c, .int .i64 (k).e]) true).run Try.prog w = .ok (.tuple #[.agg #[], .bool (decide (k ∈ s.G))]) w := by
  obtain ⟨n, D, h1, _, h3⟩ := h.map
  have hz : (zeroValue 68).run Try.prog w = .ok (.agg #[]) w := by kernel_rfl
  obtain ⟨v, ps, hr, hv⟩ := h1.look_ok Try.lawKey Try.underlying58 hz unitElem_mk (key_is k hk)
  obtain ⟨rfl, _⟩ := unitElem_inv hv
  rw [h3 k hk] at hr
  exact hr
/-- A key is destroyed: the map is written. -/
theorem VaAt.mark {w : World} {F : Nat → Prop} {g : Nat} {s : Va} {m c : Nat} {A : Option Addr} {es : List Ep} (h : VaAt w F g s m A c es) (k : Ky) (hk : k.wf) (hG : s.G.length ≤ 1000000) :
    ∃ w', (Instr.mapUpdate 58 (.map (some m)) (.agg #[.int .i64 (k).t, .int .i64 (k).c, .int .i64 (k).e]) (.agg #[])).run Try.prog w = .ok () w' ∧ w.grownBy w' (some m) ∧ VaAt w' F g ⟨s.L, s.G ++ [k]⟩ m A c es := by
  obtain ⟨n, D, h1, h2, h3⟩ := h.map
  obtain ⟨w', hr, ho, hg⟩ := h1.update Try.lawKey Try.underlying58 (by unfold maxLen; omega) (key_is k hk) unitElem_mk
  refine ⟨w', hr, hg, ?_⟩
  have kb : ∀ j, F j → j ≠ m → w'.heap[j]? = w.heap[j]? := fun j hj hne => hg.block j (h.F j hj) (fun e => hne (by injection e))
  exact ⟨h.blk.keep (kb g h.Fg h.gm), own_keep h.row fun b hb => kb b (h.Ag b hb).2.2 (h.Ag b hb).2.1, h.ens, fun x hx => ⟨(h.bts x hx).1.at1 hg.size fun u hu => kb u ((h.bts x hx).2.2 u hu).1 ((h.bts x hx).2.2 u hu).2.2.1, (h.bts x hx).2⟩,
    ⟨n + 1, _, ho, (by show n + 1 ≤ (s.G ++ [k]).length; simp; omega), fun k' hk' => (by
      show _ = decide (k' ∈ s.G ++ [k])
      by_cases e : k' = k
      · subst e
        rw [Maps.has_put_same h1.isMap (klit_key _)]
        simp
      · rw [Maps.has_put_other (fun e' => e (klit_inj hk' hk e')), h3 k' hk']
        simp [e])⟩, h.gm, h.Ag, h.Fg, h.Fm, fun j hj => Nat.lt_of_lt_of_le (h.F j hj) hg.size⟩
/-- What stands behind the handle j + 1. -/
theorem VaAt.range {w : World} {F : Nat → Prop} {g : Nat} {s : Va} {m c : Nat} {A : Option Addr} {es : List Ep} (h : VaAt w F g s m A c es) {j : Nat} (hj : j < es.length) : ∃ b, A = some ⟨b, 0, none⟩ ∧ b < w.heap.size ∧ w.rangeAt b (j * 5) es[j].cells := by
  obtain ⟨b, hA, hlt, hr⟩ := own_range h.row (by omega)
  exact ⟨b, hA, hlt, fun t u hu => by
    have := hr (j * 5 + t) u (ecs_at es hj t u hu)
    rwa [Nat.zero_add] at this⟩
theorem Try.infoSe : (Try.prog.info? 65).map (fun i => (i.zero, i.size, i.bytes)) = some (some (.agg #[.int .i64 0, .int .i64 0, .int .i64 0, .string ⟨#[]⟩, .slice none 0 0]), 5, 64) := by kernel_rfl
theorem Try.infoSe1 : (Try.prog.info? 65).map (·.size) = some 5 := by kernel_rfl
end Go.Proofs.Ytaailoodhaibiaa
