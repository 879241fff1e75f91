import Derived.Test.YtolaojkcofbkhaaGreatMem
import Derived.Maps.OwnSet
import Derived.DeepKeys4
namespace Go.Proofs.YtolaojkcofbkhaaGreat
set_option maxRecDepth 100000
set_option maxHeartbeats 1000000
structure Ky where
 t : Int
 c : Int
 e : Int
deriving DecidableEq
def Ky.wf (k : Ky) : Prop := (-9223372036854775808 ≤ k.t ∧ k.t ≤ 9223372036854775807) ∧ (-9223372036854775808 ≤ k.c ∧ k.c ≤ 9223372036854775807) ∧ (-9223372036854775808 ≤ k.e ∧ k.e ≤ 9223372036854775807)
def Ky.right (k : Ky) : Prop := 0 ≤ k.t ∧ 0 ≤ k.c ∧ 0 ≤ k.e
instance (k : Ky) : Decidable k.right := inferInstanceAs (Decidable (_ ∧ _))
theorem Ky.ext' {a b : Ky} (h1 : a.t = b.t) (h2 : a.c = b.c) (h3 : a.e = b.e) : a = b := by
 cases a; cases b; simp_all
structure En where
 k : Ky
 b : List UInt8
 p : List UInt8
structure Va where
 L : List En
 G : List Ky
def Va.new : Va := ⟨[], []⟩
def wipe (k : Ky) (x : En) : En := if x.k = k then ⟨k, [], []⟩ else x
theorem wipe_k (k : Ky) (x : En) : (wipe k x).k = x.k := by
 unfold wipe
 split
 · rename_i h; exact h.symm
 · rfl
def Va.destroy (s : Va) (k : Ky) : Va := ⟨s.L.map (wipe k), s.G ++ [k]⟩
def seE (s : Va) (k : Ky) (n : Nat) : Int := if ¬ k.right ∨ 65536 < n then 2 else if k ∈ s.G then 50 else 0
def seH (s : Va) (k : Ky) (n : Nat) : Nat := if ¬ k.right ∨ 65536 < n then 0 else if k ∈ s.G then 0 else s.L.length + 1
def seS (s : Va) (k : Ky) (b p : List UInt8) : Va := if ¬ k.right ∨ 65536 < p.length then s else if k ∈ s.G then s else ⟨s.L ++ [⟨k, b, p⟩], s.G⟩
def behind (L : List En) (h : Nat) : Option En := if h = 0 then none else L[h - 1]?
def opX (s : Va) (k : Ky) (b : List UInt8) (h : Nat) : Option (List UInt8) := (behind s.L h).bind fun x => if x.k = k ∧ x.b = b then some x.p else none
def opE (s : Va) (k : Ky) (b : List UInt8) (h : Nat) : Int := if k ∈ s.G then 50 else if (opX s k b h).isSome then 0 else 51
def opB (s : Va) (k : Ky) (b : List UInt8) (h : Nat) : List UInt8 := if k ∈ s.G then [] else (opX s k b h).getD []
theorem seS_L (s : Va) (k : Ky) (b p : List UInt8) : (seS s k b p).L.length ≤ s.L.length + 1 ∧ (seS s k b p).G = s.G := by
 unfold seS
 split
 · exact ⟨by omega, rfl⟩
 · split
   · exact ⟨by omega, rfl⟩
   · exact ⟨by simp, rfl⟩
open Go.RowKit
theorem Tryz.laidOutV : laidOutB Tryz.prog = true := by kernel_rfl
theorem Tryz.rowKey : (54 : TypeId) < Tryz.prog.types.size := of_decide_eq_true (by kernel_rfl)
theorem Tryz.wideKey : (match Tryz.prog.underlying 54 with | some (.array _ _) | some (.struct _) => true | _ => false) = true := by rw [Tryz.underlying54]
theorem Tryz.lawKey : Maps.Keyed Tryz.prog 54 := Maps.Keyed.of_law (deep_law_laid Tryz.laidOutV (m := 2) (by omega) Tryz.rowKey (by kernel_rfl) Tryz.wideKey)
theorem Tryz.keyTypeKey : Tryz.prog.keyType 54 = true := by kernel_rfl
theorem Tryz.cellsKey : Tryz.prog.cellsOf 54 = 3 := by kernel_rfl
theorem Tryz.cellsInt : Tryz.prog.cellsOf 3 = 1 := by kernel_rfl
theorem wfI {a : Int} (h : -9223372036854775808 ≤ a ∧ a ≤ 9223372036854775807) : (Lit.int .i64 a).wf = true := by simp [Lit.wf, IntKind.min, IntKind.max, IntKind.signed, IntKind.bits]; omega
theorem lits_int (d : Nat) (a : Int) (h : -9223372036854775808 ≤ a ∧ a ≤ 9223372036854775807) : Tryz.prog.keyLits (d + 1) 3 [.int .i64 a] = some [.int .i64 a] := by
 unfold Program.keyLits
 rw [Tryz.underlying3]
 simp [wfI h]
theorem lits_key (d : Nat) (k : Ky) (h : k.wf) : Tryz.prog.keyLits (d + 2) 54 [.int .i64 k.t, .int .i64 k.c, .int .i64 k.e] = some [.int .i64 k.t, .int .i64 k.c, .int .i64 k.e] := by
 unfold Program.keyLits
 rw [Tryz.underlying54]
 simp [Tryz.cellsKey, Tryz.cellsInt, lits_int d k.t h.1, lits_int d k.c h.2.1, lits_int d k.e h.2.2]
def klit (k : Ky) : Lit := .string (keyBytes [.int .i64 k.t, .int .i64 k.c, .int .i64 k.e])
theorem key_is (k : Ky) (h : k.wf) : keyOf Tryz.prog 54 (.agg #[.int .i64 (k).t, .int .i64 (k).c, .int .i64 (k).e]) = some (klit k) := by
 have hf : (Value.agg #[.int .i64 k.t, .int .i64 k.c, .int .i64 k.e]).formed Tryz.prog 54 = true := by simp [Value.formed, Tryz.underlying54, Tryz.cellsKey]
 obtain ⟨d, hd⟩ : ∃ d, Tryz.prog.types.size + 1 = d + 2 := ⟨Tryz.prog.types.size - 1, by have h : (54 : Nat) < Tryz.prog.types.size := Tryz.rowKey; omega⟩
 have hl : Tryz.prog.keyLits (Tryz.prog.types.size + 1) 54 (Value.agg #[.int .i64 k.t, .int .i64 k.c, .int .i64 k.e]).cells.toList = some [.int .i64 k.t, .int .i64 k.c, .int .i64 k.e] := by rw [hd]; exact lits_key d k h
 unfold keyOf
 rw [Tryz.underlying54]
 simp only [Tryz.keyTypeKey, hf, Bool.and_self, if_true, hl, Option.map_some, klit]
theorem klit_inj {a b : Ky} (ha : a.wf) (hb : b.wf) (h : klit a = klit b) : a = b := by
 have h1 := key_is a ha
 rw [h] at h1
 have := Tryz.lawKey.inj h1 (key_is b hb)
 injection this with this
 have := congrArg Array.toList this
 simp at this
 exact Ky.ext' this.1 this.2.1 this.2.2
theorem klit_key (k : Ky) : WideAt.IsKeyLit (klit k) := trivial
structure Ep where
 k : Ky
 b : List UInt8
 p : List UInt8
 A : Option Addr
 c : Nat
def Ep.en (x : Ep) : En := ⟨x.k, x.b, x.p⟩
def Ep.cells (x : Ep) : List Value := [.int .i64 x.k.t, .int .i64 x.k.c, .int .i64 x.k.e, .string (str x.b), .slice x.A x.p.length x.c]
def ecs (es : List Ep) : List Value := es.flatMap Ep.cells
theorem ecs_app (a b : List Ep) : ecs (a ++ b) = ecs a ++ ecs b := by simp [ecs]
theorem ecs_one (x : Ep) : ecs [x] = x.cells := by simp [ecs]
theorem ecs_len (es : List Ep) : (ecs es).length = es.length * 5 := by
 induction es with
 | nil => rfl
 | cons x r ih =>
  show (x.cells ++ ecs r).length = _
  rw [List.length_append, ih]
  simp [Ep.cells]
  omega
theorem ep_cell (x : Ep) : ∀ u ∈ x.cells, u.oneCell' = true := by
 intro u hu
 simp only [Ep.cells, List.mem_cons, List.not_mem_nil, or_false] at hu
 rcases hu with rfl | rfl | rfl | rfl | rfl <;> rfl
theorem ecs_split (es : List Ep) {j : Nat} (hj : j < es.length) : ecs es = ecs (es.take j) ++ (es[j].cells ++ ecs (es.drop (j + 1))) := by
 conv => lhs; rw [show es = es.take j ++ (es[j] :: es.drop (j + 1)) by simp]
 rw [ecs_app]
 rfl
theorem ecs_at (es : List Ep) {j : Nat} (hj : j < es.length) : ∀ t u, es[j].cells[t]? = some u → (ecs es)[j * 5 + t]? = some u := by
 intro t u hu
 have hl : (ecs (es.take j)).length = j * 5 := by
  rw [ecs_len, List.length_take]
  have : min j es.length = j := by omega
  rw [this]
 have ht := (List.getElem?_eq_some_iff.1 hu).1
 rw [ecs_split es hj, List.getElem?_append_right (by omega), List.getElem?_append_left (by rw [hl]; simp only [Nat.add_sub_cancel_left]; exact ht), hl, Nat.add_sub_cancel_left]
 exact hu
structure VaAt (w : World) (F : Nat → Prop) (g : Nat) (s : Va) (m : Nat) (A : Option Addr) (c : Nat) (es : List Ep) : Prop where
 blk : Blk w g 112 #[.slice A es.length c, .map (some m)]
 row : w.ownsRow 0 150 5 (.slice A es.length c) es.length (ecs es)
 ens : es.map Ep.en = s.L
 bts : ∀ x ∈ es, Bts w 0 w.heap.size x.A x.p.length x.p ∧ x.p.length ≤ 65536 ∧ ∀ u, x.A.map (·.block) = some u → F u ∧ u ≠ g ∧ u ≠ m ∧ A.map (·.block) ≠ some u
 map : ∃ n D, w.ownsMap (H := Unit) Tryz.prog 54 unitElem m n D ∧ n ≤ s.G.length ∧ ∀ k : Ky, k.wf → Maps.has D (klit k) = decide (k ∈ s.G)
 gm : g ≠ m
 Ag : ∀ b, A.map (·.block) = some b → b ≠ g ∧ b ≠ m ∧ F b
 Fg : F g
 Fm : F m
 F : ∀ j, F j → j < w.heap.size
def Vlt (w : World) (F : Nat → Prop) (g : Nat) (s : Va) : Prop := ∃ m A c es, VaAt w F g s m A c es
section
variable {w w' : World} {F G : Nat → Prop} {g : Nat} {s : Va} {m c : Nat} {A : Option Addr} {es : List Ep}
theorem VaAt.len (h : VaAt w F g s m A c es) : es.length = s.L.length := by rw [← h.ens, List.length_map]
theorem VaAt.cells (h : VaAt w F g s m A c es) : w.cell? ⟨g, 0, none⟩ = some (.slice A es.length c) ∧ w.cell? ⟨g, 1, none⟩ = some (.map (some m)) := by
 have h0 := h.blk.cell 0
 have h1 := h.blk.cell 1
 simp at h0 h1
 exact ⟨h0, h1⟩
theorem ownsMap_keep {P : Program} {k : TypeId} {R : Value → Option (DataW Unit × List MemPlace)} {b n : Nat} {D : DataW Unit} (h : w.ownsMap P k R b n D) (hk : w'.heap[b]? = w.heap[b]?) : w'.ownsMap P k R b n D := by
 obtain ⟨es, clock, hb, r⟩ := h
 exact ⟨es, clock, hk.trans hb, r⟩
theorem VaAt.keep (h : VaAt w F g s m A c es) (hs : w.heap.size ≤ w'.heap.size) (hk : ∀ j, F j → w'.heap[j]? = w.heap[j]?) : VaAt w' F g s m A c es :=
 ⟨h.blk.keep (hk g h.Fg), own_keep h.row fun b hb => hk b (h.Ag b hb).2.2, h.ens, fun x hx => ⟨(h.bts x hx).1.at1 hs fun u hu => hk u ((h.bts x hx).2.2 u hu).1, (h.bts x hx).2⟩,
  (by obtain ⟨n, D, h1, h2⟩ := h.map; exact ⟨n, D, ownsMap_keep h1 (hk m h.Fm), h2⟩), h.gm, h.Ag, h.Fg, h.Fm, fun j hj => Nat.lt_of_lt_of_le (h.F j hj) hs⟩
theorem VaAt.bel (h : VaAt w F g s m A c es) (hb : Below w.heap.size w w') : VaAt w' F g s m A c es := h.keep hb.size fun j hj => hb.block j (h.F j hj)
theorem Vlt.keep (h : Vlt w F g s) (hs : w.heap.size ≤ w'.heap.size) (hk : ∀ j, F j → w'.heap[j]? = w.heap[j]?) : Vlt w' F g s := by
 obtain ⟨m, A, c, es, h⟩ := h
 exact ⟨m, A, c, es, h.keep hs hk⟩
theorem Vlt.lt (h : Vlt w F g s) : ∀ j, F j → j < w.heap.size := by
 obtain ⟨m, A, c, es, h⟩ := h
 exact h.F
theorem Vlt.bel (h : Vlt w F g s) (hb : Below w.heap.size w w') : Vlt w' F g s := h.keep hb.size fun j hj => hb.block j (h.lt j hj)
def VLeft (w w' : World) (F : Nat → Prop) (g : Nat) (s : Va) : Prop := ∃ F' : Nat → Prop, Vlt w' F' g s ∧ Kp F w w' ∧ ∀ j, F' j → F j ∨ w.heap.size ≤ j
theorem VLeft.same (h : Vlt w F g s) (hb : Below w.heap.size w w') : VLeft w w' F g s := ⟨F, h.bel hb, Kp.ofBelow hb, fun _ hj => .inl hj⟩
theorem VLeft.after {w1 w2 : World} (hb : Below w.heap.size w w1) (h : VLeft w1 w2 F g s) : VLeft w w2 F g s := by
 obtain ⟨F2, hd, hk2, hF2⟩ := h
 exact ⟨F2, hd, (Kp.ofBelow hb).trans hk2, fun j hj => by
  rcases hF2 j hj with e | e
  · exact .inl e
  · exact .inr (Nat.le_trans hb.size e)⟩
end
theorem VaAt.look {w : World} {F : Nat → Prop} {g : Nat} {s : Va} {m c : Nat} {A : Option Addr} {es : List Ep} (h : VaAt w F g s m A c es) (k : Ky) (hk : k.wf) :
 (Instr.lookup 109 (.map (some m)) (.agg #[.int .i64 (k).t, .int .i64 (k).c, .int .i64 (k).e]) true).run Tryz.prog w = .ok (.tuple #[.agg #[], .bool (decide (k ∈ s.G))]) w := by
 obtain ⟨n, D, h1, _, h3⟩ := h.map
 have hz : (zeroValue 148).run Tryz.prog w = .ok (.agg #[]) w := by kernel_rfl
 obtain ⟨v, ps, hr, hv⟩ := h1.look_ok Tryz.lawKey Tryz.underlying109 hz unitElem_mk (key_is k hk)
 obtain ⟨rfl, _⟩ := unitElem_inv hv
 rw [h3 k hk] at hr
 exact hr
theorem VaAt.mark {w : World} {F : Nat → Prop} {g : Nat} {s : Va} {m c : Nat} {A : Option Addr} {es : List Ep} (h : VaAt w F g s m A c es) (k : Ky) (hk : k.wf) (hG : s.G.length ≤ 1000000) :
 ∃ w', (Instr.mapUpdate 109 (.map (some m)) (.agg #[.int .i64 (k).t, .int .i64 (k).c, .int .i64 (k).e]) (.agg #[])).run Tryz.prog w = .ok () w' ∧ w.grownBy w' (some m) ∧ VaAt w' F g ⟨s.L, s.G ++ [k]⟩ m A c es := by
 obtain ⟨n, D, h1, h2, h3⟩ := h.map
 obtain ⟨w', hr, ho, hg⟩ := h1.update Tryz.lawKey Tryz.underlying109 (by unfold maxLen; omega) (key_is k hk) unitElem_mk
 refine ⟨w', hr, hg, ?_⟩
 have kb : ∀ j, F j → j ≠ m → w'.heap[j]? = w.heap[j]? := fun j hj hne => hg.block j (h.F j hj) (fun e => hne (by injection e))
 exact ⟨h.blk.keep (kb g h.Fg h.gm), own_keep h.row fun b hb => kb b (h.Ag b hb).2.2 (h.Ag b hb).2.1, h.ens, fun x hx => ⟨(h.bts x hx).1.at1 hg.size fun u hu => kb u ((h.bts x hx).2.2 u hu).1 ((h.bts x hx).2.2 u hu).2.2.1, (h.bts x hx).2⟩,
  ⟨n + 1, _, ho, (by show n + 1 ≤ (s.G ++ [k]).length; simp; omega), fun k' hk' => (by
   show _ = decide (k' ∈ s.G ++ [k])
   by_cases e : k' = k
   · subst e
     rw [Maps.has_put_same h1.isMap (klit_key _)]
     simp
   · rw [Maps.has_put_other (fun e' => e (klit_inj hk' hk e')), h3 k' hk']
     simp [e])⟩, h.gm, h.Ag, h.Fg, h.Fm, fun j hj => Nat.lt_of_lt_of_le (h.F j hj) hg.size⟩
theorem VaAt.range {w : World} {F : Nat → Prop} {g : Nat} {s : Va} {m c : Nat} {A : Option Addr} {es : List Ep} (h : VaAt w F g s m A c es) {j : Nat} (hj : j < es.length) : ∃ b, A = some ⟨b, 0, none⟩ ∧ b < w.heap.size ∧ w.rangeAt b (j * 5) es[j].cells := by
 obtain ⟨b, hA, hlt, hr⟩ := own_range h.row (by omega)
 exact ⟨b, hA, hlt, fun t u hu => by
  have := hr (j * 5 + t) u (ecs_at es hj t u hu)
  rwa [Nat.zero_add] at this⟩
theorem Tryz.infoSe : (Tryz.prog.info? 150).map (fun i => (i.zero, i.size, i.bytes)) = some (some (.agg #[.int .i64 0, .int .i64 0, .int .i64 0, .string ⟨#[]⟩, .slice none 0 0]), 5, 64) := by kernel_rfl
theorem Tryz.infoSe1 : (Tryz.prog.info? 150).map (·.size) = some 5 := by kernel_rfl
theorem right_c (k : Ky) (w : World) : Calls Tryz.prog 138 #[(.agg #[.int .i64 (k).t, .int .i64 (k).c, .int .i64 (k).e])] w fun e w' => e = .returned (.bool (decide k.right)) ∧ Below w.heap.size w w' := by
 go_enter Tryz.func138, Tryz.ntmps138
 have HB : Hid (Below w.heap.size w (w.alloc (.cells #[.int .i64 k.t, .int .i64 k.c, .int .i64 k.e] 54))) := hid ((Below.refl _ _).alloc (nl _) _)
 by_cases h1 : 0 ≤ k.t
 · have e1 : decide (0 ≤ k.t) = true := by simpa using h1
   by_cases h2 : 0 ≤ k.c
   · have e2 : decide (0 ≤ k.c) = true := by simpa using h2
     have HE : Hid (decide k.right = decide (0 ≤ k.e)) := hid (by unfold Ky.right; simp [h1, h2])
     rw [HE.out]
     clear h1 h2 HE
     go_wp2
     go_ret
     exact ⟨rfl, HB.out⟩
   · have e2 : decide (0 ≤ k.c) = false := by simpa using h2
     have HE : Hid (decide k.right = false) := hid (by unfold Ky.right; simp [h2])
     rw [HE.out]
     clear h1 h2 HE
     go_wp2
     go_ret
     exact ⟨rfl, HB.out⟩
 · have e1 : decide (0 ≤ k.t) = false := by simpa using h1
   have HE : Hid (decide k.right = false) := hid (by unfold Ky.right; simp [h1])
   rw [HE.out]
   clear h1 HE
   go_wp2
   go_ret
   exact ⟨rfl, HB.out⟩
theorem sealed_c (w : World) (F : Nat → Prop) (g : Nat) (s : Va) (h : Vlt w F g s) :
 Calls Tryz.prog 91 #[.pointer (some ⟨g, 0, none⟩)] w fun e w' => e = .returned (.int .i64 (s.L.length : Int)) ∧ w = w' := by
 obtain ⟨m, A, c, es, h⟩ := h
 obtain ⟨h0, -⟩ := h.cells
 rw [h.len] at h0
 clear h
 go_enter Tryz.func91, Tryz.ntmps91
 go_wp2
 go_ret
 exact ⟨rfl, rfl⟩
theorem gone_c (w : World) (F : Nat → Prop) (g : Nat) (s : Va) (h : Vlt w F g s) (k : Ky) (hk : k.wf) :
 Calls Tryz.prog 124 #[.pointer (some ⟨g, 0, none⟩), (.agg #[.int .i64 (k).t, .int .i64 (k).c, .int .i64 (k).e])] w fun e w' => e = .returned (.bool (decide (k ∈ s.G))) ∧ Below w.heap.size w w' := by
 obtain ⟨m, A, c, es, h⟩ := h
 have HB : Hid (Below w.heap.size w (w.alloc (.cells #[.int .i64 k.t, .int .i64 k.c, .int .i64 k.e] 54))) := hid ((Below.refl _ _).alloc (nl _) _)
 have hs1 : (w.alloc (.cells #[.int .i64 k.t, .int .i64 k.c, .int .i64 k.e] 54)).heap.size = w.heap.size + 1 := by simp
 have hk1 := Blk.new w 54 #[.int .i64 k.t, .int .i64 k.c, .int .i64 k.e]
 have HA : Hid (∀ wx, Below (w.heap.size + 1) (w.alloc (.cells #[.int .i64 k.t, .int .i64 k.c, .int .i64 k.e] 54)) wx → wx.cell? ⟨g, 1, none⟩ = some (.map (some m)) ∧ wx.cell? ⟨w.heap.size, 0, none⟩ = some (.int .i64 k.t) ∧ wx.cell? ⟨w.heap.size, 1, none⟩ = some (.int .i64 k.c) ∧ wx.cell? ⟨w.heap.size, 2, none⟩ = some (.int .i64 k.e) ∧
  (Instr.lookup 109 (.map (some m)) (.agg #[.int .i64 (k).t, .int .i64 (k).c, .int .i64 (k).e]) true).run Tryz.prog wx = .ok (.tuple #[.agg #[], .bool (decide (k ∈ s.G))]) wx) := hid (fun wx hx => by
  have hv := (h.bel HB.out).bel (hx.mono (by rw [hs1]; exact nl _))
  have hb := hk1.keep (hx.block w.heap.size (by omega))
  exact ⟨hv.cells.2, by simpa using hb.cell 0, by simpa using hb.cell 1, by simpa using hb.cell 2, hv.look k hk⟩)
 generalize decide (k ∈ s.G) = q at *
 have HS1 := hid hs1
 clear h hk hs1 hk1
 go_enter Tryz.func124, Tryz.ntmps124
 go_wp2_with fail
 generalize w.alloc (.cells #[.int .i64 k.t, .int .i64 k.c, .int .i64 k.e] 54) = w1 at *
 refine wp_region_held_drew (S := fun wx => Below (w.heap.size + 1) w1 wx) (by kernel_rfl) ((Below.refl _ _).drew) (fun HS => ?_)
 refine qT 0 ?v0 ?y0 HS ?r0
 case y0 => refine qI fun wS hSw => ?_; go_simp; try with_reducible rfl
 try simp only [Act.put, zA]
 refine qT 1 ?v1 ?y1 HS ?r1
 case y1 => refine qI fun wS hSw => ?_; go_simp; try with_reducible rfl
 try simp only [Act.put, zA]
 refine qT 2 ?v2 ?y2 HS ?r2
 case y2 => refine qI fun wS hSw => ?_; go_simp; try with_reducible rfl
 try simp only [Act.put, zA]
 refine qT 3 ?v3 ?y3 HS ?r3
 case y3 =>
  refine qI fun wS hSw => ?_
  obtain ⟨c1, k0, k1, k2, lk⟩ := HA.out wS hSw
  go_simp
  try with_reducible rfl
 try simp only [Act.put, zA]
 refine qT 4 ?v4 ?y4 HS ?r4
 case y4 =>
  refine qI fun wS hSw => ?_
  obtain ⟨c1, k0, k1, k2, lk⟩ := HA.out wS hSw
  go_simp
  try with_reducible rfl
 try simp only [Act.put, zA]
 refine qT 5 ?v5 ?y5 HS ?r5
 case y5 =>
  refine qI fun wS hSw => ?_
  obtain ⟨c1, k0, k1, k2, lk⟩ := HA.out wS hSw
  go_simp
  try with_reducible rfl
 try simp only [Act.put, zA]
 refine qT 6 ?v6 ?y6 HS ?r6
 case y6 => refine qI fun wS hSw => ?_; go_simp; try with_reducible rfl
 try simp only [Act.put, zA]
 refine qT 7 ?v7 ?y7 HS ?r7
 case y7 => refine qI fun wS hSw => ?_; go_simp; try with_reducible rfl
 try simp only [Act.put, zA]
 refine qT 8 ?v8 ?y8 HS ?r8
 case y8 => refine qI fun wS hSw => ?_; go_simp; try with_reducible rfl
 try simp only [Act.put, zA]
 refine qR 9 fun K hK => ?_
 go_simp
 refine hK.out _ _ ((Below.refl _ _).drew.alloc (by have := HS1.out; simp; omega) _) (fun HS => ?_)
 clear hK K
 try simp only [Act.put, zA]
 refine qR 10 fun K hK => ?_
 go_simp
 refine hK.out _ _ ((Below.refl _ _).drew.alloc (by have := HS1.out; simp; omega) _) (fun HS => ?_)
 clear hK K
 try simp only [Act.put]
 refine qT 11 ?v11 ?y11 HS ?r11
 case y11 => refine qI fun wS hSw => ?_; go_simp; try with_reducible rfl
 try simp only [Act.put, zA]
 refine qD ?_
 have HX := hid HS
 clear HS
 go_wp2
 go_ret
 exact ⟨rfl, HB.out.trans (HX.out.mono (by omega))⟩
theorem own_c (A : Option Addr) (n c : Nat) (l : List UInt8) (w : World) (hr : Bts w 0 w.heap.size A n l) (hn : n ≤ 65536) :
 Calls Tryz.prog 125 #[.slice A n c] w fun e w' => ∃ A' c', e = .returned (.slice A' n c') ∧ w'.ownsRow w.heap.size 5 1 (.slice A' n c') n (bs l) ∧ Below w.heap.size w w' := by
 have HR := hid hr
 have HN := hid hn
 clear hr hn
 go_enter Tryz.func125, Tryz.ntmps125
 go_wp2_with (at_make; refine wpList_make_new _ rfl _ _ 51 rfl 5 (.int .u8 0) 1 Tryz.underlying51 Tryz.infoU8 rfl (n : Int) (n : Int) n n rfl rfl rfl rfl (nl _) (by have := HN.out; omega) (by have := HN.out; omega) ?_)
 intro w1 hz1 hg1 hs1
 have B1 : Below w.heap.size w w1 := (Below.refl _ _).grown hg1 (nl _) (fun k hk => by cases hk)
 have hB1 : Blk w1 w.heap.size 5 (zeros n (.int .u8 0)).toArray := hz1.out
 have hcp := run_copyN w1 3 w.heap.size n A n c 0 w.heap.size l (HR.out.below B1 (nl _)) (fun j hj => ⟨by rw [hB1.cell, Nat.zero_add]; simp [zeros, hj], hB1.frozen _⟩)
 have hB2 := hB1.setAll (bs l) (by rw [bs_len, HR.out.len]; simp [zeros])
 have g2 := grown_setCells w.heap.size (bs l) 0 w1
 generalize w1.setCells w.heap.size 0 (bs l) = w2 at *
 have HB2 := hid hB2
 have HO : Hid (Below w.heap.size w w2) := hid (B1.grown g2 (Nat.le_of_lt hs1) (fun k hk => by injection hk with hk; omega))
 clear hB1 hB2 g2 hz1 hg1 B1
 go_wp2
 go_ret
 refine ⟨_, _, rfl, ⟨by rw [bs_len, HR.out.len, Nat.mul_one], .inr ⟨w.heap.size, n, (bs l).toArray, rfl, nl _, HB2.out, nl _, by have := HN.out; unfold maxLen; omega, by simp [bs_len, HR.out.len], ?_⟩⟩, HO.out⟩
 exact List.take_of_length_le (by simp [bs_len, HR.out.len])
theorem Vlt.new {w : World} {lo m g : Nat} (hb : Blk w g 112 #[.slice none 0 0, .map (some m)]) (hm : w.ownsMap (H := Unit) Tryz.prog 54 unitElem m 0 (.map [])) (h1 : m < g) (h2 : lo ≤ m) : Vlt w (fun j => lo ≤ j ∧ j < w.heap.size) g Va.new :=
 ⟨m, none, 0, [], hb, own_nilrow _ _ _ _, rfl, fun x hx => (by cases hx), ⟨0, .map [], hm, Nat.zero_le _, fun k hk => (by simp [Maps.has, Va.new])⟩, by omega, fun b hb => (by cases hb), ⟨by omega, hb.lt⟩, ⟨h2, by have := hb.lt; omega⟩, fun j hj => hj.2⟩
theorem vnew_c (w : World) : Calls Tryz.prog 13 #[] w fun e w' => ∃ g F, e = .returned (.pointer (some ⟨g, 0, none⟩)) ∧ Vlt w' F g Va.new ∧ Below w.heap.size w w' ∧ ∀ j, F j → w.heap.size ≤ j := by
 have hmm := @run_makeMap Tryz.prog
 have hb1 : Below w.heap.size w (w.alloc (.map #[] 0)) := (Below.refl _ _).alloc (nl _) _
 have ho := World.ownsMap_made (H := Unit) w Tryz.prog 54 unitElem
 have hs1 : (w.alloc (.map #[] 0)).heap.size = w.heap.size + 1 := by simp
 have HB : Hid (Below w.heap.size w ((w.alloc (.map #[] 0)).alloc (.cells #[.slice none 0 0, .map (some w.heap.size)] 112))) := hid (hb1.alloc (by omega) _)
 have HV : Hid (Vlt ((w.alloc (.map #[] 0)).alloc (.cells #[.slice none 0 0, .map (some w.heap.size)] 112)) (fun j => w.heap.size ≤ j ∧ j < ((w.alloc (.map #[] 0)).alloc (.cells #[.slice none 0 0, .map (some w.heap.size)] 112)).heap.size) (w.heap.size + 1) Va.new) := hid (Vlt.new (by have := Blk.new (w.alloc (.map #[] 0)) 112 #[.slice none 0 0, .map (some w.heap.size)]; rw [hs1] at this; exact this) (ho.alloc _) (by omega) (nl _))
 clear hb1 ho hs1
 go_enter Tryz.func13, Tryz.ntmps13
 go_wp2
 go_ret
 exact ⟨_, _, rfl, HV.out, HB.out, fun j hj => hj.1⟩
def Ep.zero : Ep := ⟨⟨0, 0, 0⟩, [], [], none, 0⟩
def epAt (es : List Ep) (h : Nat) : Ep := if h = 0 then Ep.zero else (es[h - 1]?).getD Ep.zero
theorem epAt_no {es : List Ep} {h : Nat} (hh : ¬ (1 ≤ h ∧ h ≤ es.length)) : epAt es h = Ep.zero := by
 unfold epAt
 split
 · rfl
 · rw [List.getElem?_eq_none (by omega)]
   rfl
theorem epAt_yes {es : List Ep} {j : Nat} (hj : j < es.length) : epAt es (j + 1) = es[j] := by
 unfold epAt
 rw [if_neg (by omega), Nat.add_sub_cancel, List.getElem?_eq_getElem hj]
 rfl
theorem own_le {w : World} {base : Nat} {e : TypeId} {z n c : Nat} {A : Option Addr} {xs : List Value} (h : w.ownsRow base e z (.slice A n c) n xs) : n ≤ maxLen := by
 rcases h.2 with ⟨_, h0⟩ | ⟨g, cap, cur, hv, _, _, h1, h2, _⟩
 · unfold maxLen; omega
 · omega
theorem wrapu {a : Int} (h : 0 ≤ a) (h2 : a < 18446744073709551616) : IntKind.u64.wrap a = a := by
 simp [IntKind.wrap, IntKind.signed, IntKind.bits]
 omega
theorem zcells (w : World) : (w.alloc (.cells #[.int .i64 0, .int .i64 0, .int .i64 0, .string ⟨#[]⟩, .slice none 0 0] 150)).there w.heap.size 0 5 := by
 have hB := Blk.new w 150 #[.int .i64 0, .int .i64 0, .int .i64 0, .string ⟨#[]⟩, .slice none 0 0]
 intro j hj
 refine ⟨?_, hB.frozen _⟩
 rw [hB.cell, Nat.zero_add, Array.getElem?_eq_getElem (by simpa using hj)]
 rfl
theorem zres (w : World) : (loadVar 150 ⟨w.heap.size, 0, none⟩).run Tryz.prog (w.alloc (.cells #[.int .i64 0, .int .i64 0, .int .i64 0, .string ⟨#[]⟩, .slice none 0 0] 150)) = .ok (.agg #[.int .i64 0, .int .i64 0, .int .i64 0, .string ⟨#[]⟩, .slice none 0 0]) (w.alloc (.cells #[.int .i64 0, .int .i64 0, .int .i64 0, .string ⟨#[]⟩, .slice none 0 0] 150)) := by
 have hB := Blk.new w 150 #[.int .i64 0, .int .i64 0, .int .i64 0, .string ⟨#[]⟩, .slice none 0 0]
 exact run_loadVar_mid (P := Tryz.prog) _ w.heap.size 0 150 [.int .i64 0, .int .i64 0, .int .i64 0, .string ⟨#[]⟩, .slice none 0 0] _ (fun j v hv => by rw [hB.cell, Nat.zero_add]; simpa using hv) Tryz.underlying150 rfl Tryz.infoSe1
theorem behind_c (w : World) (F : Nat → Prop) (g : Nat) (s : Va) (m : Nat) (A : Option Addr) (c : Nat) (es : List Ep) (h : VaAt w F g s m A c es) (H : Int) (hd : Nat) (hH : H = (hd : Int)) (hh : hd < 18446744073709551616) :
 Calls Tryz.prog 84 #[.pointer (some ⟨g, 0, none⟩), .int .u64 H] w fun e w' => e = .returned (.tuple #[(.agg #[.int .i64 (epAt es hd).k.t, .int .i64 (epAt es hd).k.c, .int .i64 (epAt es hd).k.e, .string (str (epAt es hd).b), .slice (epAt es hd).A (epAt es hd).p.length (epAt es hd).c]), .bool (decide (1 ≤ hd ∧ hd ≤ es.length))]) ∧ Below w.heap.size w w' := by
 have hb1 : Below w.heap.size w (w.alloc (.cells #[.int .i64 0, .int .i64 0, .int .i64 0, .string ⟨#[]⟩, .slice none 0 0] 150)) := (Below.refl _ _).alloc (nl _) _
 have hlen : es.length ≤ 9223372036854775807 := by have := own_le h.row; unfold maxLen at this; omega
 have hwl : IntKind.u64.wrap (es.length : Int) = (es.length : Int) := wrapu (by omega) (by omega)
 obtain ⟨h0, -⟩ := (h.bel hb1).cells
 have hth := zcells w
 go_enter Tryz.func84, Tryz.ntmps84
 by_cases hin : 1 ≤ hd ∧ hd ≤ es.length
 · obtain ⟨j, rfl⟩ : ∃ j, hd = j + 1 := ⟨hd - 1, by omega⟩
   have hj : j < es.length := by omega
   obtain ⟨b, hA, hlt, hr⟩ := h.range hj
   rw [epAt_yes hj, decide_eq_true hin]
   have HR := hid (rangeAt_keep hr (hb1.block b hlt))
   generalize es[j] = x at *
   have e1 : (H == 0) = false := by simp; omega
   have e2 : decide ((es.length : Int) < H) = false := by simp; omega
   have e3 : IntKind.u64.wrap (H - 1) = (j : Int) := by rw [wrapu (by omega) (by omega)]; omega
   have i1 : (0 : Int) ≤ (j : Int) := by omega
   have i2 : (j : Int) < (es.length : Int) := by omega
   have HB1 := hid hb1
   have hs1 : (w.alloc (.cells #[.int .i64 0, .int .i64 0, .int .i64 0, .string ⟨#[]⟩, .slice none 0 0] 150)).heap.size = w.heap.size + 1 := by simp
   have r4 : ((w.alloc (.cells #[.int .i64 0, .int .i64 0, .int .i64 0, .string ⟨#[]⟩, .slice none 0 0] 150)).setCells w.heap.size 0 x.cells).rangeAt w.heap.size 0 x.cells := World.rangeAt_setCells_same _ _ _ _ hth
   have g4 := grown_setCells w.heap.size x.cells 0 (w.alloc (.cells #[.int .i64 0, .int .i64 0, .int .i64 0, .string ⟨#[]⟩, .slice none 0 0] 150))
   have HT := hid hth
   have HC := hid (all_oneCell_toArray (ep_cell x))
   subst hA
   clear h hin hlen hH hh hj hr hlt hth hb1
   generalize hw1 : w.alloc (.cells #[.int .i64 0, .int .i64 0, .int .i64 0, .string ⟨#[]⟩, .slice none 0 0] 150) = w1 at *
   have HBB : Hid (Below w.heap.size w (w1.setCells w.heap.size 0 x.cells)) := hid (HB1.out.grown g4 (by omega) (fun k hk => by injection hk with hk; omega))
   generalize hw4 : w1.setCells w.heap.size 0 x.cells = w4 at *
   have HW4 := hid hw4
   have HRES := hid (run_loadVar_mid (P := Tryz.prog) w4 w.heap.size 0 150 x.cells _ r4 Tryz.underlying150 rfl Tryz.infoSe1)
   have HEX : Hid (Value.agg x.cells.toArray = (.agg #[.int .i64 (x).k.t, .int .i64 (x).k.c, .int .i64 (x).k.e, .string (str (x).b), .slice (x).A (x).p.length (x).c])) := hid rfl
   clear r4 g4 hw4 hs1
   subst hw1
   go_wp2_with (first | (refine wpList_load_mid rfl 150 _ rfl b (j * 5) rfl x.cells _ HR.out Tryz.underlying150 rfl Tryz.infoSe1 ?_) | (refine wpList_store_mid rfl 150 _ _ rfl _ _ x.cells.toArray rfl rfl HT.out Tryz.infoSe1 HC.out ?_; rw [show World.setCells _ w.heap.size 0 x.cells.toArray.toList = w4 from HW4.out]))
   rw [← HEX.out]
   have hres := HRES.out
   refine bodyPost_ret (v := .tuple #[.agg x.cells.toArray, .bool true]) ?_ rfl ⟨rfl, HBB.out⟩
   simp [results, Tryz.results84, asAddr, hres]
 · rw [epAt_no hin, decide_eq_false hin]
   have HB1 := hid hb1
   have hres := zres w
   have hz : hd = 0 ∨ es.length < hd := by omega
   rcases hz with hz | hz
   · have e1 : (H == 0) = true := by simp; omega
     clear h hin hlen hH hh hth hb1 hz
     go_wp2
     refine bodyPost_ret (v := .tuple #[.agg #[.int .i64 0, .int .i64 0, .int .i64 0, .string ⟨#[]⟩, .slice none 0 0], .bool false]) ?_ rfl ⟨rfl, HB1.out⟩
     simp [results, Tryz.results84, asAddr, hres]
   · have e1 : (H == 0) = false := by simp; omega
     have e2 : decide ((es.length : Int) < H) = true := by simp; omega
     clear h hin hlen hH hh hth hb1 hz
     go_wp2
     refine bodyPost_ret (v := .tuple #[.agg #[.int .i64 0, .int .i64 0, .int .i64 0, .string ⟨#[]⟩, .slice none 0 0], .bool false]) ?_ rfl ⟨rfl, HB1.out⟩
     simp [results, Tryz.results84, asAddr, hres]
theorem Tryz.infoKey : (Tryz.prog.info? 54).map (·.size) = some 3 := by kernel_rfl
theorem epAt_behind {es : List Ep} {L : List En} (he : es.map Ep.en = L) (h : Nat) : behind L h = if 1 ≤ h ∧ h ≤ es.length then some (epAt es h).en else none := by
 subst he
 unfold behind
 by_cases h0 : h = 0
 · rw [if_pos h0, if_neg (by omega)]
 · rw [if_neg h0]
   obtain ⟨j, rfl⟩ : ∃ j, h = j + 1 := ⟨h - 1, by omega⟩
   by_cases hj : j < es.length
   · rw [if_pos (by omega), epAt_yes hj, Nat.add_sub_cancel, List.getElem?_map, List.getElem?_eq_getElem hj]
     rfl
   · rw [if_neg (by omega), List.getElem?_eq_none (by simp; omega)]
end Go.Proofs.YtolaojkcofbkhaaGreat
