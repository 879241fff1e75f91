/- Cells of two numbers as things in memory; the calls of devices and vaults in their place among others (Foc). -/
import Derived.Test.YtocmgdhgimpfhaaRtDef
import Derived.Test.YtocmgdhgimpfhaaPgOn
namespace Go.Proofs.Ytocmgdhgimpfhaa
open Go.RowKit

/-- A cell of a version and a mark in block g. -/
def CeT (T : TypeId) (g : Nat) (c : Ce) : Ob := fun w F => Blk w g T #[.int .i64 (c.ver : Int), .int .i64 (c.mark : Int)] ∧ ∀ j, F j ↔ j = g
theorem CeT.ok (T : TypeId) (g : Nat) (c : Ce) : (CeT T g c).Ok := ⟨fun w w' F h _ hk => ⟨h.1.keep (hk g ((h.2 g).2 rfl)), h.2⟩, fun w F h j hj => by have := (h.2 j).1 hj; subst this; exact h.1.lt⟩
abbrev CeO (g : Nat) (c : Ce) : Ob := CeT 33 g c
theorem CeT.left {T : TypeId} {g : Nat} {c c' : Ce} {w w' : World} {F : Nat → Prop} (h : CeT T g c w F) (hb : Blk w' g T #[.int .i64 (c'.ver : Int), .int .i64 (c'.mark : Int)]) (hg : w.grownBy w' (some g)) : (CeT T g c').Left w w' F :=
  ⟨F, ⟨hb, h.2⟩, Kp.grown hg fun k hk => by injection hk with hk; exact .inl ((h.2 k).2 hk.symm), fun _ hj => .inl hj⟩
section
variable {C : Ob → Ob} {w wr : World} {gd gv gc : Nat} {d : St} {v : Va} {c : Ce} {X : Nat → Prop} {T : TypeId}
/-- The block of a cell in its place. -/
theorem ce_at (hC : Foc C) (h : On w (C (CeT T gc c)) wr X) : Blk wr gc T #[.int .i64 (c.ver : Int), .int .i64 (c.mark : Int)] ∧ (∀ x, X x → x ≠ gc) ∧ w.heap.size ≤ gc := by
  obtain ⟨F, h1, h2, h3, _⟩ := h.at_ hC
  exact ⟨h1.1, fun x hx e => h3 x hx ((h1.2 x).2 e), h2 gc ((h1.2 gc).2 rfl)⟩
/-- A cell written. -/
theorem ce_set (hC : Foc C) (h : On w (C (CeT T gc c)) wr X) {wr' : World} {c' : Ce} (hb : Blk wr' gc T #[.int .i64 (c'.ver : Int), .int .i64 (c'.mark : Int)]) (hg : wr.grownBy wr' (some gc)) : On w (C (CeT T gc c')) wr' X ∧ Stay X wr wr' := by
  obtain ⟨F, h1, _, h3, hf⟩ := h.at_ hC
  obtain ⟨k1, k2, k3⟩ := hf wr' (CeT T gc c') (CeT.left h1 hb hg)
  exact ⟨k1, k2, k3⟩
/-- A call that leaves a thing, in its place. -/
theorem Foc.leave (hC : Foc C) {P P' : Ob} (h : On w (C P) wr X) {f : FuncId} {args : Array Value} {u : Value} (hcall : ∀ F, P wr F → Calls Try.prog f args wr fun e w' => e = .returned u ∧ P'.Left wr w' F) :
    Calls Try.prog f args wr fun e w' => e = .returned u ∧ On w (C P') w' X ∧ Stay X wr w' := by
  obtain ⟨F, h1, _, _, hf⟩ := h.at_ hC
  refine (hcall F h1).mono ?_
  rintro e w' ⟨rfl, hl⟩
  obtain ⟨k1, k2, k3⟩ := hf w' P' hl
  exact ⟨rfl, k1, k2, k3⟩
theorem dsync_on (hC : Foc C) (h : On w (C (DvO gd d)) wr X) (hW : d.W.length ≤ 100000) :
    Calls Try.prog 34 #[.pointer (some ⟨gd, 0, none⟩)] wr fun e w' => e = .returned (.int .i64 (caE d)) ∧ On w (C (DvO gd (syS d))) w' X ∧ Stay X wr w' :=
  hC.leave h fun F h1 => sync_any wr F gd d h1 hW
theorem dbeat_on (hC : Foc C) (h : On w (C (DvO gd d)) wr X) :
    Calls Try.prog 35 #[.pointer (some ⟨gd, 0, none⟩)] wr fun e w' => e = .returned (.int .i64 (caE d)) ∧ On w (C (DvO gd (beS d))) w' X ∧ Stay X wr w' :=
  hC.leave h fun F h1 => beat_any wr F gd d h1
theorem dlimit_on (hC : Foc C) (h : On w (C (DvO gd d)) wr X) (i : Int) (hi : i ≤ 9223372036854775807) :
    Calls Try.prog 13 #[.pointer (some ⟨gd, 0, none⟩), .int .i64 i] wr fun e w' => e = .returned (.tuple #[]) ∧ On w (C (DvO gd (d.bound i))) w' X ∧ Stay X wr w' :=
  hC.leave h fun F h1 => limit_c wr F gd d h1 i hi
theorem dcrash_on (hC : Foc C) (h : On w (C (DvO gd d)) wr X) (KA : Option Addr) (kn kc : Nat) (keep : List Bool) (hk : Lst wr 0 wr.heap.size KA kn (keep.map .bool)) (hX : 0 < kn → ∀ x, KA.map (·.block) = some x → X x ∨ x < w.heap.size) (hW : d.W.length ≤ 1000000) :
    Calls Try.prog 15 #[.pointer (some ⟨gd, 0, none⟩), .slice KA kn kc] wr fun e w' => e = .returned (.tuple #[]) ∧ On w (C (DvO gd (d.crash keep))) w' X ∧ Stay X wr w' := by
  obtain ⟨F, h1, h2, h3, hf⟩ := h.at_ hC
  refine (crash_c wr F gd d h1 KA kn kc keep hk (fun h0 u hu e => ?_) hW).mono ?_
  · rcases hX h0 u hu with hx | hx
    · exact h3 u hx e
    · have := h2 u e; omega
  rintro e w' ⟨rfl, hl⟩
  obtain ⟨k1, k2, k3⟩ := hf w' (DvO gd (d.crash keep)) hl
  exact ⟨rfl, k1, k2, k3⟩
theorem dwrite_on (hC : Foc C) (h : On w (C (DvO gd d)) wr X) (i : Int) (A : Option Addr) (n k : Nat) (l : List UInt8) (hr : Bts wr 0 wr.heap.size A n l) (hX : 0 < n → ∀ x, A.map (·.block) = some x → X x ∨ x < w.heap.size) (hW : d.W.length ≤ 100000) :
    Calls Try.prog 21 #[.pointer (some ⟨gd, 0, none⟩), .int .i64 i, .slice A n k] wr fun e w' => e = .returned (.int .i64 (wrE d i l.length)) ∧ On w (C (DvO gd (wrS d i l))) w' X ∧ Stay X wr w' := by
  obtain ⟨F, h1, h2, h3, hf⟩ := h.at_ hC
  refine (write_any wr F gd d h1 i A n k l hr (fun h0 u hu e => ?_) hW).mono ?_
  · rcases hX h0 u hu with hx | hx
    · exact h3 u hx e
    · have := h2 u e; omega
  rintro e w' ⟨rfl, hl⟩
  obtain ⟨k1, k2, k3⟩ := hf w' (DvO gd (wrS d i l)) hl
  exact ⟨rfl, k1, k2, k3⟩
theorem dwaiting_on (hC : Foc C) (h : On w (C (DvO gd d)) wr X) :
    Calls Try.prog 28 #[.pointer (some ⟨gd, 0, none⟩)] wr fun e w' => e = .returned (.int .i64 (d.W.length : Int)) ∧ wr = w' := by
  obtain ⟨F, h1, _⟩ := h.at_ hC
  exact waiting_c wr F gd d h1
theorem vsealed_on (hC : Foc C) (h : On w (C (VtO gv v)) wr X) :
    Calls Try.prog 30 #[.pointer (some ⟨gv, 0, none⟩)] wr fun e w' => e = .returned (.int .i64 (v.L.length : Int)) ∧ wr = w' := by
  obtain ⟨F, h1, _⟩ := h.at_ hC
  exact sealed_c wr F gv v h1
theorem vseal_on (hC : Foc C) (h : On w (C (VtO gv v)) wr X) (k : Ky) (hk : k.wf) (b : List UInt8) (PA : Option Addr) (n pc : Nat) (l : List UInt8) (hp : Bts wr 0 wr.heap.size PA n l) (hL : v.L.length ≤ 1000000) :
    Calls Try.prog 23 #[.pointer (some ⟨gv, 0, none⟩), (.agg #[.int .i64 (k).t, .int .i64 (k).c, .int .i64 (k).e]), .string (str b), .slice PA n pc] wr fun e w' => e = .returned (.tuple #[.int .u64 (seH v k l.length : Int), .int .i64 (seE v k l.length)]) ∧ On w (C (VtO gv (seS v k b l))) w' X ∧ Stay X wr w' :=
  hC.leave h fun F h1 => seal_any wr F gv v h1 k hk b PA n pc l hp hL
/-- A device, a vault and a cell. -/
def TC (gd : Nat) (d : St) (gv : Nat) (v : Va) (gc : Nat) (c : Ce) : Ob := (PV gd d gv v).and (CeO gc c)
theorem TC.ok (gd : Nat) (d : St) (gv : Nat) (v : Va) (gc : Nat) (c : Ce) : (TC gd d gv v gc c).Ok := (PV.ok gd d gv v).and (CeT.ok _ gc c)
theorem tc_p (gc : Nat) (c : Ce) : Foc fun P => P.and (CeO gc c) := Foc.one Foc.self (CeT.ok _ gc c)
theorem tc_d (gv : Nat) (v : Va) (gc : Nat) (c : Ce) : Foc fun P => (P.and (VtO gv v)).and (CeO gc c) := Foc.one (Foc.dv gv v) (CeT.ok _ gc c)
theorem tc_v (gd : Nat) (d : St) (gc : Nat) (c : Ce) : Foc fun P => ((DvO gd d).and P).and (CeO gc c) := Foc.one (Foc.vt gd d) (CeT.ok _ gc c)
theorem tc_c (gd : Nat) (d : St) (gv : Nat) (v : Va) : Foc fun P => (PV gd d gv v).and P := Foc.two Foc.self (PV.ok gd d gv v)
end
end Go.Proofs.Ytocmgdhgimpfhaa
