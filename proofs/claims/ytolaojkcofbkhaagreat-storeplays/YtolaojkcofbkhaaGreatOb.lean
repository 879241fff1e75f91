import Derived.Test.YtolaojkcofbkhaaGreatMemO
namespace Go.Proofs.YtolaojkcofbkhaaGreat
open Go.RowKit
abbrev Ob := World → (Nat → Prop) → Prop
structure Ob.Ok (P : Ob) : Prop where
 keep : ∀ w w' F, P w F → w.heap.size ≤ w'.heap.size → (∀ j, F j → w'.heap[j]? = w.heap[j]?) → P w' F
 lt : ∀ w F, P w F → ∀ j, F j → j < w.heap.size
def Ob.Left (P : Ob) (w w' : World) (F : Nat → Prop) : Prop := ∃ F' : Nat → Prop, P w' F' ∧ Kp F w w' ∧ ∀ j, F' j → F j ∨ w.heap.size ≤ j
theorem Ob.Left.same {P : Ob} {w : World} {F : Nat → Prop} (h : P w F) : P.Left w w F := ⟨F, h, Kp.refl _ _, fun _ hj => .inl hj⟩
theorem Ob.Left.bel {P : Ob} (hP : P.Ok) {w w' : World} {F : Nat → Prop} (h : P w F) (hb : Below w.heap.size w w') : P.Left w w' F :=
 ⟨F, hP.keep w w' F h hb.size fun j hj => hb.block j (hP.lt w F h j hj), Kp.ofBelow hb, fun _ hj => .inl hj⟩
theorem Ob.Left.pre {P : Ob} {w w1 w2 : World} {F : Nat → Prop} (hb : Below w.heap.size w w1) (h : P.Left w1 w2 F) : P.Left w w2 F := by
 obtain ⟨F', h1, h2, h3⟩ := h
 exact ⟨F', h1, (Kp.ofBelow hb).trans h2, fun j hj => (h3 j hj).imp id (Nat.le_trans hb.size)⟩
theorem Ob.Left.next {P : Ob} {w w1 w2 : World} {F F1 : Nat → Prop} (k1 : Kp F w w1) (s1 : ∀ j, F1 j → F j ∨ w.heap.size ≤ j) (h : P.Left w1 w2 F1) : P.Left w w2 F := by
 obtain ⟨F', h1, h2, h3⟩ := h
 refine ⟨F', h1, k1.step h2 s1, fun j hj => ?_⟩
 rcases h3 j hj with e | e
 · exact s1 j e
 · exact .inr (Nat.le_trans k1.size e)
def Ob.and (P Q : Ob) : Ob := fun w F => ∃ A B : Nat → Prop, P w A ∧ Q w B ∧ (∀ j, A j → ¬ B j) ∧ ∀ j, F j ↔ A j ∨ B j
theorem Ob.Ok.and {P Q : Ob} (hp : P.Ok) (hq : Q.Ok) : (P.and Q).Ok := by
 refine ⟨fun w w' F h hs hk => ?_, fun w F h j hj => ?_⟩
 · obtain ⟨A, B, h1, h2, h3, h4⟩ := h
   exact ⟨A, B, hp.keep w w' A h1 hs fun j hj => hk j ((h4 j).2 (.inl hj)), hq.keep w w' B h2 hs fun j hj => hk j ((h4 j).2 (.inr hj)), h3, h4⟩
 · obtain ⟨A, B, h1, h2, h3, h4⟩ := h
   rcases (h4 j).1 hj with e | e
   · exact hp.lt w A h1 j e
   · exact hq.lt w B h2 j e
def Foc (C : Ob → Ob) : Prop := ∀ (P : Ob) (w : World) (F : Nat → Prop), C P w F → ∃ A : Nat → Prop, P w A ∧ (∀ j, A j → F j) ∧ ∀ (w' : World) (P' : Ob), P'.Left w w' A → (C P').Left w w' F
theorem Foc.self : Foc fun P => P := fun _ _ F h => ⟨F, h, fun _ hj => hj, fun _ _ h' => h'⟩
theorem Foc.one {C : Ob → Ob} {Q : Ob} (hC : Foc C) (hQ : Q.Ok) : Foc fun P => (C P).and Q := by
 intro P w F h
 obtain ⟨A, B, h1, h2, h3, h4⟩ := h
 obtain ⟨D, d1, d2, d3⟩ := hC P w A h1
 refine ⟨D, d1, fun j hj => (h4 j).2 (.inl (d2 j hj)), fun w' P' hL => ?_⟩
 obtain ⟨A', a1, a2, a3⟩ := d3 w' P' hL
 refine ⟨fun j => A' j ∨ B j, ⟨A', B, a1, hQ.keep w w' B h2 a2.size fun j hj => a2.block j (hQ.lt w B h2 j hj) fun e => h3 j e hj, fun j hj hb => ?_, fun _ => Iff.rfl⟩, a2.mono fun j hj => (h4 j).2 (.inl hj), fun j hj => ?_⟩
 · rcases a3 j hj with e | e
   · exact h3 j e hb
   · have := hQ.lt w B h2 j hb; omega
 · rcases hj with hj | hj
   · rcases a3 j hj with e | e
     · exact .inl ((h4 j).2 (.inl e))
     · exact .inr e
   · exact .inl ((h4 j).2 (.inr hj))
theorem Foc.two {C : Ob → Ob} {Q : Ob} (hC : Foc C) (hQ : Q.Ok) : Foc fun P => Q.and (C P) := by
 intro P w F h
 obtain ⟨B, A, h2, h1, h3, h4⟩ := h
 obtain ⟨D, d1, d2, d3⟩ := hC P w A h1
 refine ⟨D, d1, fun j hj => (h4 j).2 (.inr (d2 j hj)), fun w' P' hL => ?_⟩
 obtain ⟨A', a1, a2, a3⟩ := d3 w' P' hL
 refine ⟨fun j => B j ∨ A' j, ⟨B, A', hQ.keep w w' B h2 a2.size fun j hj => a2.block j (hQ.lt w B h2 j hj) fun e => h3 j hj e, a1, fun j hb hj => ?_, fun _ => Iff.rfl⟩, a2.mono fun j hj => (h4 j).2 (.inr hj), fun j hj => ?_⟩
 · rcases a3 j hj with e | e
   · exact h3 j hb e
   · have := hQ.lt w B h2 j hb; omega
 · rcases hj with hj | hj
   · exact .inl ((h4 j).2 (.inl hj))
   · rcases a3 j hj with e | e
     · exact .inl ((h4 j).2 (.inr e))
     · exact .inr e
def On (w : World) (P : Ob) (wr : World) (X : Nat → Prop) : Prop := ∃ F : Nat → Prop, P wr F ∧ (∀ j, F j → w.heap.size ≤ j) ∧ Below w.heap.size w wr ∧ ∀ x, X x → ¬ F x ∧ x < wr.heap.size ∧ w.heap.size ≤ x
section
variable {w wr wr' : World} {P Q : Ob} {X Y : Nat → Prop}
theorem On.below (h : On w P wr X) : Below w.heap.size w wr := by
 obtain ⟨F, h1, h2, h3, h4⟩ := h
 exact h3
theorem On.lt (h : On w P wr X) {x : Nat} (hx : X x) : x < wr.heap.size := by
 obtain ⟨F, h1, h2, h3, h4⟩ := h
 exact (h4 x hx).2.1
theorem On.less (h : On w P wr X) (hY : ∀ x, Y x → X x) : On w P wr Y := by
 obtain ⟨F, h1, h2, h3, h4⟩ := h
 exact ⟨F, h1, h2, h3, fun x hx => h4 x (hY x hx)⟩
theorem On.go (h : On w P wr X) (hP : P.Ok) (hb : Below wr.heap.size wr wr') : On w P wr' X := by
 obtain ⟨F, h1, h2, h3, h4⟩ := h
 exact ⟨F, hP.keep wr wr' F h1 hb.size fun j hj => hb.block j (hP.lt wr F h1 j hj), h2, h3.trans (hb.mono h3.size), fun x hx => ⟨(h4 x hx).1, Nat.lt_of_lt_of_le (h4 x hx).2.1 hb.size, (h4 x hx).2.2⟩⟩
theorem On.add (h : On w P wr X) (hP : P.Ok) (hb : Below wr.heap.size wr wr') (hY : ∀ x, Y x → wr.heap.size ≤ x ∧ x < wr'.heap.size) : On w P wr' (fun x => X x ∨ Y x) := by
 have hg := h.go hP hb
 obtain ⟨F, h1, h2, h3, h4⟩ := h
 refine ⟨F, hP.keep wr wr' F h1 hb.size fun j hj => hb.block j (hP.lt wr F h1 j hj), h2, h3.trans (hb.mono h3.size), fun x hx => ?_⟩
 rcases hx with hx | hx
 · exact ⟨(h4 x hx).1, Nat.lt_of_lt_of_le (h4 x hx).2.1 hb.size, (h4 x hx).2.2⟩
 · have := hY x hx
   have := h3.size
   exact ⟨fun e => by have := hP.lt wr F h1 x e; omega, by omega, by omega⟩
theorem On.at_ {C : Ob → Ob} (hC : Foc C) (h : On w (C P) wr X) : ∃ A : Nat → Prop, P wr A ∧ (∀ j, A j → w.heap.size ≤ j) ∧ (∀ x, X x → ¬ A x) ∧ ∀ (wr' : World) (P' : Ob), P'.Left wr wr' A → On w (C P') wr' X ∧ wr.heap.size ≤ wr'.heap.size ∧ ∀ x, X x → wr'.heap[x]? = wr.heap[x]? := by
 obtain ⟨F, h1, h2, h3, h4⟩ := h
 obtain ⟨A, a1, a2, a3⟩ := hC P wr F h1
 refine ⟨A, a1, fun j hj => h2 j (a2 j hj), fun x hx e => (h4 x hx).1 (a2 x e), fun wr' P' hL => ?_⟩
 obtain ⟨F', f1, f2, f3⟩ := a3 wr' P' hL
 refine ⟨⟨F', f1, fun j hj => ?_, h3.trans (f2.below h2 h3.size), fun x hx => ?_⟩, f2.size, fun x hx => f2.block x (h4 x hx).2.1 (h4 x hx).1⟩
 · rcases f3 j hj with e | e
   · exact h2 j e
   · have := h3.size; omega
 · obtain ⟨b1, b2, b3⟩ := h4 x hx
   exact ⟨fun e => by rcases f3 x e with e | e; exact b1 e; omega, Nat.lt_of_lt_of_le b2 f2.size, b3⟩
theorem On.with_ (h : On w P wr X) (hP : P.Ok) {G : Nat → Prop} (hq : Q wr' G) (hb : Below wr.heap.size wr wr') (hG : ∀ j, G j → wr.heap.size ≤ j) : On w (P.and Q) wr' X := by
 obtain ⟨F, h1, h2, h3, h4⟩ := h
 refine ⟨fun j => F j ∨ G j, ⟨F, G, hP.keep wr wr' F h1 hb.size fun j hj => hb.block j (hP.lt wr F h1 j hj), hq, fun j hj hg => ?_, fun _ => Iff.rfl⟩, fun j hj => ?_, h3.trans (hb.mono h3.size), fun x hx => ⟨?_, Nat.lt_of_lt_of_le (h4 x hx).2.1 hb.size, (h4 x hx).2.2⟩⟩
 · have := hP.lt wr F h1 j hj
   have := hG j hg
   omega
 · rcases hj with hj | hj
   · exact h2 j hj
   · have := hG j hj
     have := h3.size
     omega
 · rintro (e | e)
   · exact (h4 x hx).1 e
   · have := hG x e
     have := (h4 x hx).2.1
     omega
theorem On.new (hb : Below w.heap.size w wr) {G : Nat → Prop} (hq : P wr' G) (hb2 : Below wr.heap.size wr wr') (hG : ∀ j, G j → wr.heap.size ≤ j) : On w P wr' (fun _ => False) :=
 ⟨G, hq, fun j hj => Nat.le_trans hb.size (hG j hj), hb.trans (hb2.mono hb.size), fun _ hx => hx.elim⟩
end
end Go.Proofs.YtolaojkcofbkhaaGreat
