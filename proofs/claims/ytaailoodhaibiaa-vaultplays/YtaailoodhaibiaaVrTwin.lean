/- A vault and the document's vault, side by side: what is alike in both; what the law's own loops ask. -/
import Derived.Test.YtaailoodhaibiaaVrSeal
namespace Go.Proofs.Ytaailoodhaibiaa
open Go.RowKit

/-- The vault forgets the bytes of keys that are destroyed; the document's does not. -/
structure Sim (s t : Va) : Prop where
  G : s.G = t.G
  len : s.L.length = t.L.length
  ent : ∀ i (h1 : i < s.L.length) (h2 : i < t.L.length), s.L[i].k = t.L[i].k ∧ (¬ s.L[i].k ∈ s.G → s.L[i] = t.L[i])
theorem Sim.new : Sim Va.new Va.new := ⟨rfl, rfl, fun i h1 _ => absurd h1 (by simp [Va.new])⟩
theorem Sim.seE {s t : Va} (h : Sim s t) (k : Ky) (n : Nat) : seE s k n = seE t k n := by unfold Go.Proofs.Ytaailoodhaibiaa.seE; rw [h.G]
theorem Sim.seH {s t : Va} (h : Sim s t) (k : Ky) (n : Nat) : seH s k n = seH t k n := by unfold Go.Proofs.Ytaailoodhaibiaa.seH; rw [h.G, h.len]
theorem Sim.seS {s t : Va} (h : Sim s t) (k : Ky) (b p : List UInt8) : Sim (seS s k b p) (seS t k b p) := by
  unfold Go.Proofs.Ytaailoodhaibiaa.seS
  split
  · exact h
  · rw [h.G]
    split
    · exact h
    · refine ⟨rfl, by simp [h.len], fun i h1 h2 => ?_⟩
      simp only [List.length_append, List.length_singleton] at h1 h2
      by_cases hi : i < s.L.length
      · have hi2 : i < t.L.length := by rw [← h.len]; exact hi
        simp only [List.getElem_append_left hi, List.getElem_append_left hi2]
        have := h.ent i hi hi2
        rw [h.G] at this
        exact this
      · have e1 : i = s.L.length := by omega
        have e2 : i = t.L.length := by rw [← h.len]; exact e1
        have x1 : (s.L ++ [(⟨k, b, p⟩ : En)])[i]'(by simp; omega) = ⟨k, b, p⟩ := by simp [e1]
        have x2 : (t.L ++ [(⟨k, b, p⟩ : En)])[i]'(by simp; omega) = ⟨k, b, p⟩ := by simp [e2]
        simp only [x1, x2]
        exact ⟨trivial, fun _ => trivial⟩
theorem Sim.destroy {s t : Va} (h : Sim s t) (k : Ky) : Sim (s.destroy k) ⟨t.L, t.G ++ [k]⟩ := by
  refine ⟨by show s.G ++ [k] = _; rw [h.G], by show (s.L.map (wipe k)).length = _; rw [List.length_map]; exact h.len, fun i h1 h2 => ?_⟩
  have hi : i < s.L.length := by simpa [Va.destroy] using h1
  have e : (s.destroy k).L[i] = wipe k s.L[i] := by simp [Va.destroy]
  rw [e, wipe_k]
  refine ⟨(h.ent i hi h2).1, fun hn => ?_⟩
  have hn' : ¬ (s.L[i].k ∈ s.G) ∧ ¬ s.L[i].k = k := by
    have : ¬ s.L[i].k ∈ s.G ++ [k] := hn
    simpa using this
  rw [show wipe k s.L[i] = s.L[i] from if_neg hn'.2]
  exact (h.ent i hi h2).2 hn'.1
theorem Sim.behind {s t : Va} (h : Sim s t) (hd : Nat) : (behind s.L hd).map (·.k) = (behind t.L hd).map (·.k) ∧ ∀ x, behind s.L hd = some x → ¬ x.k ∈ s.G → behind t.L hd = some x := by
  unfold Go.Proofs.Ytaailoodhaibiaa.behind
  by_cases h0 : hd = 0
  · rw [if_pos h0, if_pos h0]; exact ⟨rfl, fun x hx => by cases hx⟩
  · rw [if_neg h0, if_neg h0]
    by_cases hi : hd - 1 < s.L.length
    · have hi2 : hd - 1 < t.L.length := by rw [← h.len]; exact hi
      rw [List.getElem?_eq_getElem hi, List.getElem?_eq_getElem hi2]
      obtain ⟨a1, a2⟩ := h.ent _ hi hi2
      refine ⟨by simp [a1], fun x hx hn => ?_⟩
      injection hx with hx
      subst hx
      rw [a2 hn]
    · rw [List.getElem?_eq_none (by omega), List.getElem?_eq_none (by have := h.len; omega)]
      exact ⟨rfl, fun x hx => by cases hx⟩
theorem Sim.uK {s t : Va} (h : Sim s t) (hd : Nat) : uK s hd = uK t hd := by
  unfold Go.Proofs.Ytaailoodhaibiaa.uK
  rw [(h.behind hd).1]
theorem Sim.opX {s t : Va} (h : Sim s t) (k : Ky) (b : List UInt8) (hd : Nat) (hk : ¬ k ∈ s.G) : opX s k b hd = opX t k b hd := by
  unfold Go.Proofs.Ytaailoodhaibiaa.opX
  obtain ⟨h1, h2⟩ := h.behind hd
  cases e : Go.Proofs.Ytaailoodhaibiaa.behind s.L hd with
  | none =>
    rw [e] at h1
    have : Go.Proofs.Ytaailoodhaibiaa.behind t.L hd = none := by
      cases e2 : Go.Proofs.Ytaailoodhaibiaa.behind t.L hd with
      | none => rfl
      | some y => rw [e2] at h1; cases h1
    rw [this]
  | some x =>
    cases e2 : Go.Proofs.Ytaailoodhaibiaa.behind t.L hd with
    | none => rw [e, e2] at h1; cases h1
    | some y =>
      have hxy : x.k = y.k := by rw [e, e2] at h1; simpa using h1
      by_cases hxk : x.k = k
      · have := h2 x e (by rw [hxk]; exact hk)
        rw [e2] at this
        injection this with this
        rw [this]
      · show (if x.k = k ∧ x.b = b then some x.p else none) = (if y.k = k ∧ y.b = b then some y.p else none)
        rw [if_neg (fun e => hxk e.1), if_neg (fun e => hxk (hxy.trans e.1))]
theorem Sim.opE {s t : Va} (h : Sim s t) (k : Ky) (b : List UInt8) (hd : Nat) : opE s k b hd = opE t k b hd := by
  unfold Go.Proofs.Ytaailoodhaibiaa.opE
  by_cases hk : k ∈ s.G
  · rw [if_pos hk, if_pos (h.G ▸ hk)]
  · rw [if_neg hk, if_neg (fun e => hk (h.G ▸ e)), h.opX k b hd hk]
theorem Sim.opB {s t : Va} (h : Sim s t) (k : Ky) (b : List UInt8) (hd : Nat) : opB s k b hd = opB t k b hd := by
  unfold Go.Proofs.Ytaailoodhaibiaa.opB
  by_cases hk : k ∈ s.G
  · rw [if_pos hk, if_pos (h.G ▸ hk)]
  · rw [if_neg hk, if_neg (fun e => hk (h.G ▸ e)), h.opX k b hd hk]
theorem uK_at {s : Va} {q : Nat} (hq : q < s.L.length) : uK s (q + 1) = s.L[q].k := by
  unfold uK behind
  rw [if_neg (by omega), Nat.add_sub_cancel, List.getElem?_eq_getElem hq]
  rfl
theorem uK_no {s : Va} {q : Nat} (hq : ¬ (1 ≤ q ∧ q ≤ s.L.length)) : uK s q = ⟨0, 0, 0⟩ := by
  unfold uK behind
  by_cases h0 : q = 0
  · rw [if_pos h0]; rfl
  · rw [if_neg h0, List.getElem?_eq_none (by omega)]; rfl

/-- A vault and the document's, apart, both new since w; the blocks of X are of neither. -/
def VTw (w wr : World) (g e : Nat) (s t : Va) (X : Nat → Prop) : Prop := ∃ F G : Nat → Prop, Vlt wr F g s ∧ RVt wr G e t ∧ (∀ j, F j → ¬ G j) ∧ (∀ j, F j → w.heap.size ≤ j) ∧ (∀ j, G j → w.heap.size ≤ j) ∧ Below w.heap.size w wr ∧ (∀ x, X x → ¬ F x ∧ ¬ G x ∧ x < wr.heap.size ∧ w.heap.size ≤ x)
section
variable {w wr : World} {g e : Nat} {s t : Va} {X : Nat → Prop}
theorem VTw.below (h : VTw w wr g e s t X) : Below w.heap.size w wr := by
  obtain ⟨F, G, _, _, _, _, _, h, _⟩ := h
  exact h
theorem VTw.bel (h : VTw w wr g e s t X) {wr' : World} (hb : Below wr.heap.size wr wr') : VTw w wr' g e s t X := by
  obtain ⟨F, G, h1, h2, h3, h4, h5, h6, h7⟩ := h
  exact ⟨F, G, h1.bel hb, h2.bel hb, h3, h4, h5, h6.trans (hb.mono h6.size), fun x hx => ⟨(h7 x hx).1, (h7 x hx).2.1, Nat.lt_of_lt_of_le (h7 x hx).2.2.1 hb.size, (h7 x hx).2.2.2⟩⟩
theorem VTw.add (h : VTw w wr g e s t X) {w2 : World} (hb : Below wr.heap.size wr w2) (Y : Nat → Prop) (hY : ∀ x, Y x → wr.heap.size ≤ x ∧ x < w2.heap.size) : VTw w w2 g e s t (fun x => X x ∨ Y x) := by
  obtain ⟨F, G, h1, h2, h3, h4, h5, h6, h7⟩ := h
  refine ⟨F, G, h1.bel hb, h2.bel hb, h3, h4, h5, h6.trans (hb.mono h6.size), fun x hx => ?_⟩
  rcases hx with hx | hx
  · exact ⟨(h7 x hx).1, (h7 x hx).2.1, Nat.lt_of_lt_of_le (h7 x hx).2.2.1 hb.size, (h7 x hx).2.2.2⟩
  · have := hY x hx
    have := h6.size
    exact ⟨fun e => by have := h1.lt x e; omega, fun e => by have := h2.lt x e; omega, by omega, by omega⟩
theorem VTw.less (h : VTw w wr g e s t X) {Y : Nat → Prop} (hY : ∀ x, Y x → X x) : VTw w wr g e s t Y := by
  obtain ⟨F, G, h1, h2, h3, h4, h5, h6, h7⟩ := h
  exact ⟨F, G, h1, h2, h3, h4, h5, h6, fun x hx => h7 x (hY x hx)⟩
theorem VTw.set (h : VTw w wr g e s t X) {v : Nat} (hv : X v) (o : Nat) (u : Value) : VTw w (wr.setCell ⟨v, o, none⟩ u) g e s t X := by
  obtain ⟨F, G, h1, h2, h3, h4, h5, h6, h7⟩ := h
  have hg := grown_setCell wr v o u
  obtain ⟨a1, a2, a3, a4⟩ := h7 v hv
  exact ⟨F, G, h1.keep hg.size fun j hj => hg.block j (h1.lt j hj) (fun e => a1 (by injection e with e; rw [← e]; exact hj)), h2.keep hg.size fun j hj => hg.block j (h2.lt j hj) (fun e => a2 (by injection e with e; rw [← e]; exact hj)), h3, h4, h5, h6.grown hg h6.size (fun k hk => by injection hk with hk; omega), fun x hx => ⟨(h7 x hx).1, (h7 x hx).2.1, Nat.lt_of_lt_of_le (h7 x hx).2.2.1 hg.size, (h7 x hx).2.2.2⟩⟩
theorem VTw.lt (h : VTw w wr g e s t X) {x : Nat} (hx : X x) : x < wr.heap.size := by
  obtain ⟨F, G, h1, h2, h3, h4, h5, h6, h7⟩ := h
  exact (h7 x hx).2.2.1
theorem VTw.one (h : VTw w wr g e s t X) : ∃ F, Vlt wr F g s ∧ (∀ j, F j → w.heap.size ≤ j) ∧ (∀ x, X x → ¬ F x) ∧ ∀ wr' s', VLeft wr wr' F g s' → VTw w wr' g e s' t X ∧ wr.heap.size ≤ wr'.heap.size ∧ ∀ x, X x → wr'.heap[x]? = wr.heap[x]? := by
  obtain ⟨F, G, h1, h2, h3, h4, h5, h6, h7⟩ := h
  refine ⟨F, h1, h4, fun x hx => (h7 x hx).1, fun wr' s' hL => ?_⟩
  obtain ⟨F', hd, hk, hF'⟩ := hL
  refine ⟨⟨F', G, hd, h2.kp hk fun j hj e => h3 j e hj, fun j hj hg => ?_, fun j hj => ?_, h5, h6.trans (hk.below h4 h6.size), fun x hx => ?_⟩, hk.size, fun x hx => hk.block x (h7 x hx).2.2.1 (h7 x hx).1⟩
  · rcases hF' j hj with e | e
    · exact h3 j e hg
    · have := h2.lt j hg; omega
  · rcases hF' j hj with e | e
    · exact h4 j e
    · have := h6.size; omega
  · obtain ⟨a1, a2, a3, a4⟩ := h7 x hx
    exact ⟨fun e => by rcases hF' x e with e | e; exact a1 e; omega, a2, Nat.lt_of_lt_of_le a3 hk.size, a4⟩
theorem VTw.two (h : VTw w wr g e s t X) : ∃ G, RVt wr G e t ∧ (∀ j, G j → w.heap.size ≤ j) ∧ (∀ x, X x → ¬ G x) ∧ ∀ wr' t', RVLeft wr wr' G e t' → VTw w wr' g e s t' X ∧ wr.heap.size ≤ wr'.heap.size ∧ ∀ x, X x → wr'.heap[x]? = wr.heap[x]? := by
  obtain ⟨F, G, h1, h2, h3, h4, h5, h6, h7⟩ := h
  refine ⟨G, h2, h5, fun x hx => (h7 x hx).2.1, fun wr' s' hL => ?_⟩
  obtain ⟨G', hd, hk, hG'⟩ := hL
  refine ⟨⟨F, G', h1.kp hk fun j hj e => h3 j hj e, hd, fun j hj hg => ?_, h4, fun j hj => ?_, h6.trans (hk.below h5 h6.size), fun x hx => ?_⟩, hk.size, fun x hx => hk.block x (h7 x hx).2.2.1 (h7 x hx).2.1⟩
  · rcases hG' j hg with e | e
    · exact h3 j hj e
    · have := h1.lt j hj; omega
  · rcases hG' j hj with e | e
    · exact h5 j e
    · have := h6.size; omega
  · obtain ⟨a1, a2, a3, a4⟩ := h7 x hx
    exact ⟨a1, fun e => by rcases hG' x e with e | e; exact a2 e; omega, Nat.lt_of_lt_of_le a3 hk.size, a4⟩
end

theorem RVAt.gone {w w5 : World} {F : Nat → Prop} {g : Nat} {s : Va} {A : Option Addr} {c : Nat} {B : Option Addr} {d : Nat} (h : RVAt w F g s A c B d) (k : Ky) (hg5 : w.grownBy w5 (B.map (·.block))) {B5 : Option Addr} {d5 : Nat}
    (ho : KRow w5 B5 d5 (s.G ++ [k])) (hL : Lies B B5 w.heap.size) :
    RVLeft w (w5.setCell ⟨g, 1, none⟩ (.slice B5 (s.G ++ [k]).length d5)) F g ⟨s.L, s.G ++ [k]⟩ := by
  have hg6 := grown_setCell w5 g 1 (.slice B5 (s.G ++ [k]).length d5)
  have s5 := hg5.size
  have s6 := hg6.size
  have lg := h.F g h.Fg
  have k5 : ∀ j, j < w.heap.size → B.map (·.block) ≠ some j → w5.heap[j]? = w.heap[j]? := fun j hj hne => hg5.block j hj (fun e => hne e.symm)
  have k6 : ∀ j, j < w5.heap.size → j ≠ g → (w5.setCell ⟨g, 1, none⟩ (.slice B5 (s.G ++ [k]).length d5)).heap[j]? = w5.heap[j]? := fun j hj hne => hg6.block j hj (fun e => hne (by injection e))
  have B1 : ∀ b, B5.map (·.block) = some b → b ≠ g ∧ (F b ∨ w.heap.size ≤ b) ∧ b < w5.heap.size ∧ A.map (·.block) ≠ some b := fun b hb => by
    rcases hL b hb with e | e
    · exact ⟨(h.Bg b e).1, .inl (h.Bg b e).2, own_lt ho b hb, fun e2 => (h.Ag b e2).2.2 e⟩
    · exact ⟨by omega, .inr (by omega), own_lt ho b hb, fun e2 => by have := h.F b (h.Ag b e2).2.1; omega⟩
  refine ⟨fun j => (F j ∨ w.heap.size ≤ j) ∧ j < w5.heap.size, ⟨A, c, B5, d5, ?_, ?_, ?_, fun b hb' => ?_, fun b hb' => ?_, ⟨.inl h.Fg, by omega⟩, fun j hj => by have := hj.2; omega⟩, ?_, fun j hj => hj.1⟩
  · exact (h.blk.keep (k5 g lg (fun e => (h.Bg g e).1 rfl))).store 1 (.slice B5 (s.G ++ [k]).length d5)
  · exact own_keep h.row fun b hb' => by
      have := h.F b (h.Ag b hb').2.1
      exact (k6 b (by omega) (h.Ag b hb').1).trans (k5 b this (h.Ag b hb').2.2)
  · exact ho.keep fun b hb' => k6 b (own_lt ho b hb') (B1 b hb').1
  · have := h.F b (h.Ag b hb').2.1
    exact ⟨(h.Ag b hb').1, ⟨.inl (h.Ag b hb').2.1, by omega⟩, fun e => (B1 b e).2.2.2 hb'⟩
  · exact ⟨(B1 b hb').1, (B1 b hb').2.1, (B1 b hb').2.2.1⟩
  · exact ⟨hg6.os.trans hg5.os, hg6.tape.trans hg5.tape, hg6.output.trans hg5.output, by omega, fun j hj hF =>
      (k6 j (by omega) (fun e => hF (e ▸ h.Fg))).trans (k5 j hj fun e => hF (h.Bg j e).2)⟩
theorem RVt.new (w : World) : RVt (w.alloc (.cells #[.slice none 0 0, .slice none 0 0] 30)) (fun j => j = w.heap.size) w.heap.size Va.new :=
  ⟨none, 0, none, 0, Blk.new w 30 #[.slice none 0 0, .slice none 0 0], own_nilrow _ _ _ _, own_nilrow _ _ _ _, fun b hb => (by cases hb), fun b hb => (by cases hb), rfl, fun j hj => (by subst hj; simp)⟩
theorem inv_own {wr : World} {base : Nat} {A : Option Addr} {n c q : Nat} {zs : List UInt8} (ho : wr.ownsRow base 5 1 (.slice A n c) n (bs zs)) (hl : zs.length = n) (hq : q < n) :
    ∃ (ab : Nat) (bb : UInt8), A = some ⟨ab, 0, none⟩ ∧ base ≤ ab ∧ wr.cell? ⟨ab, q, none⟩ = some (.int .u8 (bb.toNat : Int)) ∧ wr.frozen? ⟨ab, q, none⟩ = false ∧ ∀ b' : UInt8, (wr.setCell ⟨ab, q, none⟩ (.int .u8 (b'.toNat : Int))).ownsRow base 5 1 (.slice (some ⟨ab, 0, none⟩) n c) n (bs (zs.set q b')) := by
  obtain ⟨ab, rfl, h1, h2, hfr⟩ := own_some ho (by omega)
  refine ⟨ab, zs[q]'(by omega), rfl, h1, ?_, hfr q, fun b' => ?_⟩
  · rw [ho.cellAt q (by omega)]
    exact bs_get zs q (by omega)
  · rw [← bs_set]
    exact own_store ho _
theorem kmod3 (i : Int) : ∃ k : Nat, k < 3 ∧ (IntKind.u64.wrap i).tmod 3 = (k : Int) := by
  have h0 : 0 ≤ IntKind.u64.wrap i := by rw [IntKind.wrap_u64]; omega
  have h1 : (IntKind.u64.wrap i).tmod 3 = (IntKind.u64.wrap i) % 3 := Int.tmod_eq_emod_of_nonneg h0
  exact ⟨((IntKind.u64.wrap i) % 3).toNat, by omega, by rw [h1]; omega⟩
theorem under_tw (w wr : World) (g e : Nat) (s t : Va) (X : Nat → Prop) (h : VTw w wr g e s t X) (H : Int) (hd : Nat) (hH : H = (hd : Int)) (hh : hd < 18446744073709551616) :
    Calls Try.prog 14 #[.pointer (some ⟨g, 0, none⟩), .int .u64 H] wr fun e w' => e = .returned (.tuple #[(.agg #[.int .i64 (uK s hd).t, .int .i64 (uK s hd).c, .int .i64 (uK s hd).e]), .bool (decide (1 ≤ hd ∧ hd ≤ s.L.length))]) ∧ Below wr.heap.size wr w' := by
  obtain ⟨F, h1, _⟩ := h.one
  exact under_c wr F g s h1 H hd hH hh
/-- The document's vault within a pair: its own cells. -/
theorem VTw.ref {w wr : World} {g e : Nat} {s t : Va} {X : Nat → Prop} (h : VTw w wr g e s t X) : ∃ A c B d G, RVAt wr G e t A c B d ∧ (∀ j, G j → w.heap.size ≤ j) := by
  obtain ⟨G, ⟨A, c, B, d, h1⟩, h2, _⟩ := h.two
  exact ⟨A, c, B, d, G, h1, h2⟩
/-- A key more that is destroyed, in the document's vault of a pair. -/
theorem VTw.gone2 {w wr : World} {g e : Nat} {s t : Va} {X : Nat → Prop} (h : VTw w wr g e s t X) (k : Ky) : ∃ A c B d, Blk wr e 30 #[.slice A t.L.length c, .slice B t.G.length d] ∧ KRow wr B d t.G ∧ (∀ x, B.map (·.block) = some x → x ≠ e ∧ ¬ X x) ∧ (∀ x, X x → x ≠ e) ∧
    ∀ (w8 w5 : World) (B5 : Option Addr) (d5 : Nat), Below wr.heap.size wr w8 → w8.grownBy w5 (B.map (·.block)) → KRow w5 B5 d5 (t.G ++ [k]) → Lies B B5 w8.heap.size →
      VTw w (w5.setCell ⟨e, 1, none⟩ (.slice B5 (t.G ++ [k]).length d5)) g e s ⟨t.L, t.G ++ [k]⟩ X ∧ ∀ x, X x → (w5.setCell ⟨e, 1, none⟩ (.slice B5 (t.G ++ [k]).length d5)).heap[x]? = wr.heap[x]? := by
  obtain ⟨F, G, h1, ⟨A, c, B, d, h2⟩, h3, h4, h5, h6, h7⟩ := h
  refine ⟨A, c, B, d, h2.blk, h2.gon, fun x hx => ⟨(h2.Bg x hx).1, fun hX => (h7 x hX).2.1 (h2.Bg x hx).2⟩, fun x hx he => (h7 x hx).2.1 (he ▸ h2.Fg), fun w8 w5 B5 d5 hb hg ho hL => ?_⟩
  have hT8 : VTw w w8 g e s t X := VTw.bel ⟨F, G, h1, ⟨A, c, B, d, h2⟩, h3, h4, h5, h6, h7⟩ hb
  have hl := (h2.bel hb).gone k hg ho hL
  have h78 : ∀ x, X x → ¬ F x ∧ ¬ G x ∧ x < w8.heap.size ∧ w.heap.size ≤ x := fun x hx => ⟨(h7 x hx).1, (h7 x hx).2.1, Nat.lt_of_lt_of_le (h7 x hx).2.2.1 hb.size, (h7 x hx).2.2.2⟩
  obtain ⟨G', hd, hk, hG'⟩ := hl
  have h68 : Below w.heap.size w w8 := h6.trans (hb.mono h6.size)
  refine ⟨⟨F, G', (h1.bel hb).kp hk fun j hj e => h3 j hj e, hd, fun j hj hg => ?_, h4, fun j hj => ?_, h68.trans (hk.below h5 h68.size), fun x hx => ?_⟩, fun x hx => (hk.block x (h78 x hx).2.2.1 (h78 x hx).2.1).trans (hb.block x (h7 x hx).2.2.1)⟩
  · rcases hG' j hg with e | e
    · exact h3 j hj e
    · have := (h1.bel hb).lt j hj; omega
  · rcases hG' j hj with e | e
    · exact h5 j e
    · have := h68.size; omega
  · obtain ⟨a1, a2, a3, a4⟩ := h78 x hx
    exact ⟨a1, fun e => by rcases hG' x e with e | e; exact a2 e; omega, Nat.lt_of_lt_of_le a3 hk.size, a4⟩
theorem filled_key (k : Ky) : Instr.fill (fun j => some (j * 3, 3)) ((Array.range (1 * 3)).map ((#[.int .i64 0, .int .i64 0, .int .i64 0] : Array Value)[· % 3]!)) [(0, (.agg #[.int .i64 (k).t, .int .i64 (k).c, .int .i64 (k).e]))] = some #[.int .i64 k.t, .int .i64 k.c, .int .i64 k.e] := by kernel_rfl
end Go.Proofs.Ytaailoodhaibiaa
