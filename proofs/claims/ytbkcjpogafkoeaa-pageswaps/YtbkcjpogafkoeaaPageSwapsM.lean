/- What PageSwaps speaks of: twelve pages on twelve blocks, their raw bytes, which of them stands where. -/
import Derived.Test.YtbkcjpogafkoeaaPgFirst
import Derived.Test.YtbkcjpogafkoeaaFrame
import Derived.Deep.LoopGhost
namespace Go.Proofs.Ytbkcjpogafkoeaa
open Go.RowKit

def pz : Pg := ⟨⟨0, 0, 0⟩, 7, 0⟩
theorem pz_wf : pz.wf := by unfold Pg.wf Ky.wf i64ok pz; decide
theorem pz_r : pz.k.right := by unfold Ky.right pz; decide
def updT (ts : Nat → Nat) (i x : Nat) : Nat → Nat := fun j => if j = i then x else ts j
/-- On m blocks of twelve stand pages that were sealed: on block i that which was sealed as ts i. -/
structure Sw (d : St) (v : Va) (m : Nat) (ts : Nat → Nat) : Prop where
  sd : ∃ B, Sd d 12 B m ∧ ∀ i, i < m → B i = pad (le8 (ts i + 1))
  G : v.G = []
  len : v.L.length = m
  at_ : ∀ i : Nat, i < m → v.L[i]? = some ⟨pz.k, besd pz (i : Int), [UInt8.ofNat (97 + i)]⟩
  lt : ∀ i, i < m → ts i < m
theorem Sw.new : Sw (St.new 12) Va.new 0 id := ⟨⟨_, Sd.new 12, fun i hi => by omega⟩, rfl, rfl, fun i hi => by omega, fun i hi => by omega⟩
theorem Sw.W {d : St} {v : Va} {m : Nat} {ts : Nat → Nat} (h : Sw d v m ts) : d.W.length ≤ m := by
  obtain ⟨B, hS, _⟩ := h.sd
  exact hS.W
theorem Sw.write {d : St} {v : Va} {m : Nat} (h : Sw d v m id) (hm : m < 12) :
    pwE d v (m : Int) pz 1 = 0 ∧ Sw (pwD d v (m : Int) pz 1) (pwV d v (m : Int) pz [UInt8.ofNat (97 + m)]) (m + 1) id ∧ rdE (pwD d v (m : Int) pz 1) (m : Int) = 0 ∧ rdB (pwD d v (m : Int) pz 1) (m : Int) = pad (le8 (m + 1)) := by
  obtain ⟨B, hS, hB⟩ := h.sd
  obtain ⟨p1, p2⟩ := hS.write (v := v) (p := pz) (j := m) hm (m := 1) pz_r (by omega) h.G
  have p3 := pwV_ok (v := v) (p := pz) (j := m) hS hm (l := [UInt8.ofNat (97 + m)]) pz_r (by simp) h.G
  rw [h.len] at p2
  obtain ⟨r1, r2⟩ := p2.raw hm
  rw [upd_same] at r2
  refine ⟨p1, ⟨⟨_, p2, fun i hi => ?_⟩, by rw [p3], by rw [p3]; simp [h.len], fun i hi => ?_, fun i hi => hi⟩, r1, r2⟩
  · by_cases e : i = m
    · subst e; exact upd_same _ _ _
    · rw [upd_other _ _ e]; exact hB i (by omega)
  · rw [p3]
    by_cases e : i = m
    · subst e
      rw [← h.len, List.getElem?_append_right (Nat.le_refl _), Nat.sub_self, h.len]; rfl
    · rw [List.getElem?_append_left (by rw [h.len]; omega)]
      exact h.at_ i (by omega)
theorem Sw.over {d : St} {v : Va} {ts : Nat → Nat} (h : Sw d v 12 ts) {i x : Nat} (hi : i < 12) (hx : x < 12) : Sw (ovS d (i : Int) (pad (le8 (x + 1)))) v 12 (updT ts i x) := by
  obtain ⟨B, hS, hB⟩ := h.sd
  obtain ⟨p1, p2⟩ := hS.over hi (l := pad (le8 (x + 1))) (by rw [pad_le8_len]; omega)
  rw [pad_pad _ (by rw [le8, le_len]; omega)] at p2
  refine ⟨⟨_, p2, fun j hj => ?_⟩, h.G, h.len, h.at_, fun j hj => ?_⟩
  · by_cases e : j = i
    · subst e; rw [upd_same]; simp [updT]
    · rw [upd_other _ _ e, hB j hj]; simp [updT, e]
  · by_cases e : j = i
    · simp [updT, e]; exact hx
    · simp [updT, e]; exact h.lt j hj
theorem Sw.read {d : St} {v : Va} {ts : Nat → Nat} (h : Sw d v 12 ts) {i : Nat} (hi : i < 12) :
    prE d v (i : Int) pz = (if ts i = i then 0 else 51) ∧ prB d v (i : Int) pz = (if ts i = i then [UInt8.ofNat (97 + i)] else []) := by
  obtain ⟨B, hS, hB⟩ := h.sd
  have hl := h.lt i hi
  obtain ⟨r1, r2⟩ := hS.hit (v := v) (p := pz) (q := pz) (j := i) (j0 := ts i) (hd := ts i) (l := [UInt8.ofNat (97 + ts i)]) hi (by omega) (hB i hi) (by omega) h.G (h.at_ (ts i) hl) pz_wf pz_wf (by omega)
  by_cases e : ts i = i
  · rw [if_pos ⟨rfl, e⟩] at r1 r2
    rw [if_pos e, if_pos e, r1, r2, e]
    exact ⟨rfl, rfl⟩
  · have e2 : ¬ (pz = pz ∧ ts i = i) := fun x => e x.2
    rw [if_neg e2] at r1 r2
    rw [if_neg e, if_neg e, r1, r2]
    exact ⟨rfl, rfl⟩
theorem Bts.stay {w w' : World} {hi hi' b off n : Nat} {l : List UInt8} (h : Bts w 0 hi (some ⟨b, off, none⟩) n l) (hb : w'.heap[b]? = w.heap[b]?) (hs : hi ≤ hi') : Bts w' 0 hi' (some ⟨b, off, none⟩) n l := by
  refine ⟨h.1, fun h0 => ?_⟩
  obtain ⟨g, o, e, h1, h2, h3⟩ := h.2 h0
  injection e with e
  injection e with e1 e2
  subst e1 e2
  exact ⟨b, off, rfl, h1, Nat.lt_of_lt_of_le h2 hs, fun j u hu => (World.cell?_of_block (a := ⟨b, off + j, none⟩) hb).trans (h3 j u hu)⟩
/-- The raw bytes of m pages, a row of rows; all its blocks are among X. -/
structure Rws (w : World) (X : Nat → Prop) (RA : Option Addr) (m rc : Nat) (vs : List Value) : Prop where
  own : w.ownsRow 0 42 1 (.slice RA m rc) m vs
  RX : ∀ b, RA.map (·.block) = some b → X b
  el : ∀ i, i < m → ∃ b c, vs[i]? = some (.slice (some ⟨b, 0, none⟩) 16 c) ∧ X b ∧ RA.map (·.block) ≠ some b ∧ Bts w 0 w.heap.size (some ⟨b, 0, none⟩) 16 (pad (le8 (i + 1)))
theorem Rws.stay {w w' : World} {X : Nat → Prop} {RA : Option Addr} {m rc : Nat} {vs : List Value} (h : Rws w X RA m rc vs) (hs : Stay X w w') : Rws w' X RA m rc vs :=
  ⟨own_keep h.own fun b hb => hs.2 b (h.RX b hb), h.RX, fun i hi => by
    obtain ⟨b, c, h1, h2, h3, h4⟩ := h.el i hi
    exact ⟨b, c, h1, h2, h3, h4.stay (hs.2 b h2) hs.1⟩⟩
theorem Rws.push {w w' : World} {X : Nat → Prop} {RA RA' : Option Addr} {m rc rc' : Nat} {vs : List Value} (h : Rws w X RA m rc vs) (hX : ∀ x, X x → x < w.heap.size) {b c : Nat} {O : Obj} (hb : Bts w 0 w.heap.size (some ⟨b, 0, none⟩) 16 (pad (le8 (m + 1)))) (hbX : ¬ X b) (hbl : b < w.heap.size)
    (ho : w'.ownsRow 0 42 1 (.slice RA' (m + 1) rc') (m + 1) (vs ++ [.slice (some ⟨b, 0, none⟩) 16 c])) (hg : (w.alloc O).grownBy w' (RA.map (·.block))) (hl : Lies RA RA' (w.heap.size + 1)) :
    Rws w' (fun x => (X x ∨ x = b) ∨ RA'.map (·.block) = some x) RA' (m + 1) rc' (vs ++ [.slice (some ⟨b, 0, none⟩) 16 c]) := by
  have hs : (w.alloc O).heap.size = w.heap.size + 1 := by simp
  have hkeep : ∀ y, y < w.heap.size → RA.map (·.block) ≠ some y → w'.heap[y]? = w.heap[y]? := fun y hy hne =>
    (hg.block y (by omega) (fun e => hne e.symm)).trans (((Below.refl w.heap.size w).alloc (Nat.le_refl _) O).block y hy)
  have hlen : vs.length = m := by have := h.own.1; omega
  have hsz := hg.size
  have hno : ∀ y, y < w.heap.size → RA.map (·.block) ≠ some y → RA'.map (·.block) ≠ some y := fun y hy hne e => by
    rcases hl y e with e | e
    · exact hne e
    · omega
  refine ⟨ho, fun x hx => .inr hx, fun i hi => ?_⟩
  by_cases e : i = m
  · subst e
    have hR : RA.map (·.block) ≠ some b := fun e => hbX (h.RX b e)
    exact ⟨b, c, by rw [← hlen, List.getElem?_append_right (Nat.le_refl _), Nat.sub_self]; rfl, .inl (.inr rfl), hno b hbl hR, hb.stay (hkeep b hbl hR) (by omega)⟩
  · obtain ⟨y, c', h1, h2, h3, h4⟩ := h.el i (by omega)
    exact ⟨y, c', by rw [List.getElem?_append_left (by omega)]; exact h1, .inl (.inl h2), hno y (hX y h2) h3, h4.stay (hkeep y (hX y h2) h3) (by omega)⟩
/-- The cells of 'which stands where'. -/
def tsc (ts : Nat → Nat) : Array Value := ((List.range 12).map fun i => Value.int .i64 (ts i : Int)).toArray
theorem tsc_get (ts : Nat → Nat) {i : Nat} (hi : i < 12) : (tsc ts)[i]? = some (.int .i64 (ts i : Int)) := by
  unfold tsc
  rw [List.getElem?_toArray, List.getElem?_map, List.getElem?_range hi]
  rfl
theorem tsc_set (ts : Nat → Nat) (i x : Nat) : (tsc ts).setIfInBounds i (.int .i64 (x : Int)) = tsc (updT ts i x) := by
  unfold tsc
  rw [List.setIfInBounds_toArray]
  congr 1
  apply List.ext_getElem?
  intro j
  rw [List.getElem?_set]
  by_cases h : j < 12
  · rw [List.getElem?_map, List.getElem?_map, List.getElem?_range h]
    by_cases e : i = j
    · subst e; simp [updT, h]
    · simp [updT, e, Ne.symm e]
  · rw [List.getElem?_eq_none (by simp; omega)]
    by_cases e : i = j
    · subst e; simp [h]
    · rw [if_neg e]; symm; exact List.getElem?_eq_none (by simp; omega)
theorem rs12 (t : Nat) : ∃ x : Nat, x < 12 ∧ Int.tmod (t : Int) 12 = (x : Int) ∧ (t : Int) % 12 = (x : Int) ∧ (x : Int) % 256 = (x : Int) ∧ IntKind.u8.wrap (x : Int) = (x : Int) ∧ wrap64 (x : Int) = (x : Int) ∧ IntKind.i64.wrap (x : Int) = (x : Int) ∧ (0 : Int) ≤ (x : Int) ∧ (x : Int) < 12 := by
  have h : t % 12 < 12 := Nat.mod_lt _ (by omega)
  have h1 : Int.tmod (t : Int) 12 = ((t % 12 : Nat) : Int) := by rw [Int.tmod_eq_emod_of_nonneg (by omega)]; omega
  have h2 : (t : Int) % 12 = ((t % 12 : Nat) : Int) := by omega
  refine ⟨t % 12, h, h1, h2, ?_⟩
  clear h1 h2
  generalize t % 12 = x at *
  refine ⟨by omega, wrap8 (by omega), by unfold wrap64; omega, IntWalk.i64_in _ (by omega), by omega, by omega⟩
theorem rem12 {x : Nat} : Int.tmod (x : Int) 12 = ((x % 12 : Nat) : Int) := by
  rw [Int.tmod_eq_emod_of_nonneg (by omega)]
  omega
end Go.Proofs.Ytbkcjpogafkoeaa
