/- The document's map: the numbers of what is free, rising; how it lies in memory, and how it goes with what is taken. Nothing is assumed. -/
import Derived.Test.YtfkaobpfdpfahaaSpFirst
namespace Go.Proofs.Ytfkaobpfdpfahaa
open Go.RowKit

/-- The cells of some numbers. -/
def nis (L : List Nat) : List Value := L.map fun (x : Nat) => Value.int .i64 (x : Int)
theorem nis_len (L : List Nat) : (nis L).length = L.length := by simp [nis]
theorem nis_app (a b : List Nat) : nis (a ++ b) = nis a ++ nis b := by simp [nis]
theorem nis_one (L : List Nat) : ∀ u ∈ nis L, u.oneCell' = true := by
  intro u hu
  simp only [nis, List.mem_map] at hu
  obtain ⟨c, _, rfl⟩ := hu
  rfl
def isIn (L : List Nat) (i : Int) : Bool := L.any fun x => (x : Int) == i
def rm (L : List Nat) (i : Int) : List Nat := L.filter fun x => (x : Int) != i
theorem rm_snoc (L : List Nat) (i : Int) (x : Nat) : rm (L ++ [x]) i = rm L i ++ if (x : Int) != i then [x] else [] := by
  unfold rm
  rw [List.filter_append, List.filter_cons, List.filter_nil]
theorem rm_len (L : List Nat) (i : Int) : (rm L i).length ≤ L.length := List.length_filter_le _ _
def gstep (i : Nat) (p : List Nat × Bool) (x : Nat) : List Nat × Bool := if !p.2 && decide (i < x) then (p.1 ++ [i] ++ [x], true) else (p.1 ++ [x], p.2)
def gf (i : Nat) (L : List Nat) : List Nat × Bool := L.foldl (gstep i) ([], false)
theorem gf_snoc (i : Nat) (L : List Nat) (x : Nat) : gf i (L ++ [x]) = gstep i (gf i L) x := by unfold gf; rw [List.foldl_append]; rfl
theorem gstep_len (i : Nat) (p : List Nat × Bool) (x : Nat) : (gstep i p x).1.length ≤ p.1.length + 2 := by
  unfold gstep; split <;> simp
theorem gf_len (i : Nat) (L : List Nat) (j : Nat) (hj : j ≤ L.length) : (gf i (L.take j)).1.length ≤ 2 * j := by
  induction j with
  | zero => simp [gf]
  | succ j ih =>
    rw [List.take_succ_eq_append_getElem (by omega), gf_snoc]
    have := gstep_len i (gf i (L.take j)) L[j]
    have := ih (by omega)
    omega
def ins (i : Nat) : List Nat → List Nat
  | [] => [i]
  | x :: R => if i < x then i :: x :: R else x :: ins i R
def gend (i : Nat) (p : List Nat × Bool) : List Nat := if p.2 then p.1 else p.1 ++ [i]
theorem fold_true (i : Nat) (L : List Nat) : ∀ a, L.foldl (gstep i) (a, true) = (a ++ L, true) := by
  induction L with
  | nil => intro a; simp
  | cons x R ih =>
    intro a
    rw [List.foldl_cons]
    have : gstep i (a, true) x = (a ++ [x], true) := by simp [gstep]
    rw [this, ih]
    simp
theorem fold_false (i : Nat) (L : List Nat) : ∀ a, gend i (L.foldl (gstep i) (a, false)) = a ++ ins i L := by
  induction L with
  | nil => intro a; simp [gend, ins]
  | cons x R ih =>
    intro a
    rw [List.foldl_cons]
    by_cases h : i < x
    · have : gstep i (a, false) x = (a ++ [i] ++ [x], true) := by simp [gstep, h]
      rw [this, fold_true]
      simp [gend, ins, h]
    · have : gstep i (a, false) x = (a ++ [x], false) := by simp [gstep, h]
      rw [this, ih]
      simp [ins, h]
theorem gend_gf (i : Nat) (L : List Nat) : gend i (gf i L) = ins i L := by have := fold_false i L []; simpa [gf] using this

/-- The document's list goes with the map. -/
structure Cp (s : Sp) (L : List Nat) : Prop where
  rise : L.Pairwise (· < ·)
  mem : ∀ x, x ∈ L ↔ s.T[x]? = some false
  len : L.length = s.free
theorem Cp.lt {s : Sp} {L : List Nat} (h : Cp s L) {x : Nat} (hx : x ∈ L) : x < s.T.length := Sp.lt_of ((h.mem x).1 hx)
theorem Cp.isin {s : Sp} {L : List Nat} (h : Cp s L) (i : Int) : isIn L i = s.fr i := by
  rw [Bool.eq_iff_iff, s.fr_iff]
  unfold isIn
  rw [List.any_eq_true]
  constructor
  · rintro ⟨x, hx, he⟩
    exact ⟨x, (by simpa using he : (x : Int) = i).symm, (h.mem x).1 hx⟩
  · rintro ⟨j, rfl, hj⟩
    exact ⟨j, (h.mem j).2 hj, by simp⟩
theorem Cp.new (n r : Nat) (h : r ≤ n) : Cp (Sp.new n r) (List.range' r (n - r)) := by
  refine ⟨List.pairwise_lt_range', fun x => ?_, by rw [List.length_range', Sp.new_free]⟩
  rw [List.mem_range'_1]
  show _ ↔ (tf n r)[x]? = some false
  rcases Nat.lt_or_ge x n with hx | hx
  · rw [tf_get n r x h hx]
    simp
    omega
  · rw [List.getElem?_eq_none (by rw [tf_len n r h]; exact hx)]
    simp
    omega
theorem Cp.nil {s : Sp} (h : Cp s []) : s.takeN = 0 ∧ s.any = false ∧ s.take = s := by
  have hf : s.free = 0 := h.len.symm
  have ha : s.any = false := by rw [s.any_iff, hf]; rfl
  have hl : s.T.length ≤ s.least := by
    unfold Sp.any at ha
    simpa using ha
  exact ⟨by unfold Sp.takeN; rw [ha]; rfl, ha, by unfold Sp.take Sp.put; rw [List.set_eq_of_length_le hl]⟩
theorem Cp.cons {s : Sp} {x : Nat} {R : List Nat} (h : Cp s (x :: R)) : s.takeN = x ∧ s.any = true ∧ Cp s.take R := by
  have hx := (h.mem x).1 (by simp)
  have hr := List.pairwise_cons.1 h.rise
  have hl : s.least = x := idx_of (fun i hi => by
    have hlt : i < s.T.length := by have := Sp.lt_of hx; omega
    rw [List.getElem?_eq_getElem hlt]
    cases hb : s.T[i] with
    | true => rfl
    | false =>
      have hm := (h.mem i).2 (by rw [List.getElem?_eq_getElem hlt, hb])
      rcases List.mem_cons.1 hm with e | e
      · omega
      · have := hr.1 i e; omega) hx
  have ha : s.any = true := by rw [s.any_iff, ← h.len]; simp
  refine ⟨by unfold Sp.takeN; rw [ha, hl]; rfl, ha, hr.2, fun y => ?_, by rw [s.take_free, ← h.len]; simp⟩
  unfold Sp.take Sp.put
  rw [hl]
  show _ ↔ (s.T.set x true)[y]? = some false
  rw [List.getElem?_set]
  by_cases e : x = y
  · subst e
    rw [if_pos rfl]
    constructor
    · intro hy; have := hr.1 _ hy; omega
    · split <;> simp
  · rw [if_neg e, ← h.mem y]
    simp [Ne.symm e]
theorem rm_of_not (L : List Nat) (i : Int) (h : isIn L i = false) : rm L i = L := by
  unfold rm
  rw [List.filter_eq_self]
  intro x hx
  unfold isIn at h
  rw [List.any_eq_false] at h
  have := h x hx
  simpa using this
theorem Cp.mark {s : Sp} {L : List Nat} (h : Cp s L) (i : Int) : Cp (s.mark i) (rm L i) ∧ decide ((rm L i).length < L.length) = s.fr i := by
  cases hf : s.fr i with
  | false =>
    have := rm_of_not L i (by rw [h.isin]; exact hf)
    rw [this]
    unfold Sp.mark
    rw [hf]
    exact ⟨h, by simp⟩
  | true =>
    obtain ⟨j, rfl, hj⟩ := (s.fr_iff i).1 hf
    have hm := (h.mem j).2 hj
    have he : rm L (j : Int) = L.erase j := by
      have hnd : L.Nodup := h.rise.imp fun h => Nat.ne_of_lt h
      rw [hnd.erase_eq_filter]
      unfold rm
      apply List.filter_congr
      intro x _
      by_cases e : x = j
      · subst e; simp
      · have h1 : ((x : Int) != (j : Int)) = true := bne_iff_ne.2 (by omega)
        have h2 : (x != j) = true := bne_iff_ne.2 e
        exact h1.trans h2.symm
    have hlen : (L.erase j).length = L.length - 1 := List.length_erase_of_mem hm
    have hpos : 0 < L.length := List.length_pos_of_mem hm
    have hcp := (count_put s.T j false hj).1
    unfold Sp.mark
    rw [hf]
    refine ⟨⟨?_, fun y => ?_, ?_⟩, by rw [he, hlen]; simp; omega⟩
    · exact h.rise.filter _
    · unfold rm
      rw [List.mem_filter, h.mem y]
      show _ ↔ (s.T.set (j : Int).toNat true)[y]? = some false
      rw [Int.toNat_natCast, List.getElem?_set]
      by_cases e : j = y
      · subst e
        rw [if_pos rfl, if_pos (Sp.lt_of hj)]
        simp
      · rw [if_neg e]
        have : ¬ (y : Int) = (j : Int) := by omega
        simp [this]
    · rw [he, hlen, h.len]
      show _ = (s.T.set (j : Int).toNat true).count false
      rw [Int.toNat_natCast]
      unfold Sp.free
      simp at hcp
      omega
theorem ins_mem (i : Nat) (L : List Nat) (y : Nat) : y ∈ ins i L ↔ y = i ∨ y ∈ L := by
  induction L with
  | nil => simp [ins]
  | cons x R ih =>
    unfold ins
    split
    · simp
    · rw [List.mem_cons, ih, List.mem_cons]
      constructor
      · rintro (h | h | h)
        · exact .inr (.inl h)
        · exact .inl h
        · exact .inr (.inr h)
      · rintro (h | h | h)
        · exact .inr (.inl h)
        · exact .inl h
        · exact .inr (.inr h)
theorem ins_len (i : Nat) (L : List Nat) : (ins i L).length = L.length + 1 := by
  induction L with
  | nil => simp [ins]
  | cons x R ih =>
    unfold ins
    split
    · simp
    · simp [ih]
theorem ins_rise (i : Nat) (L : List Nat) (h : L.Pairwise (· < ·)) (hi : i ∉ L) : (ins i L).Pairwise (· < ·) := by
  induction L with
  | nil => simp [ins]
  | cons x R ih =>
    have hr := List.pairwise_cons.1 h
    simp at hi
    unfold ins
    split
    · rename_i hlt
      refine List.pairwise_cons.2 ⟨fun y hy => ?_, h⟩
      rcases List.mem_cons.1 hy with e | e
      · omega
      · have := hr.1 y e; omega
    · refine List.pairwise_cons.2 ⟨fun y hy => ?_, ih hr.2 hi.2⟩
      rcases (ins_mem i R y).1 hy with e | e
      · omega
      · exact hr.1 y e
theorem Cp.give {s : Sp} {L : List Nat} (h : Cp s L) (i : Nat) (hg : s.gv (i : Int) = true) : Cp (s.give (i : Int)) (ins i L) := by
  obtain ⟨j, he, hj, hr⟩ := (s.gv_iff (i : Int)).1 hg
  have : i = j := by omega
  subst this
  have hni : i ∉ L := fun hm => by have := (h.mem i).1 hm; rw [hj] at this; cases this
  refine ⟨ins_rise i L h.rise hni, fun y => ?_, by rw [ins_len, h.len, s.give_free, hg]; rfl⟩
  unfold Sp.give
  rw [hg]
  rw [ins_mem, h.mem y]
  show _ ↔ (s.T.set (i : Int).toNat false)[y]? = some false
  rw [Int.toNat_natCast, List.getElem?_set]
  by_cases e : i = y
  · subst e
    rw [if_pos rfl, if_pos (Sp.lt_of hj)]
    simp
  · rw [if_neg e]
    simp [Ne.symm e]
/-- When the document's Give refuses. -/
theorem Cp.gv {s : Sp} {L : List Nat} (h : Cp s L) (i : Int) : s.gv i = !(decide (i < (s.r : Int)) || decide ((s.T.length : Int) ≤ i) || isIn L i) := by
  rw [h.isin]
  unfold Sp.gv
  cases hh : s.hs i with
  | false =>
    rw [s.tk_out i hh]
    unfold Sp.hs at hh
    rcases Int.lt_or_le i 0 with h0 | h0
    · have : decide (i < (s.r : Int)) = true := by simp; omega
      rw [this]; rfl
    · have : decide ((s.T.length : Int) ≤ i) = true := by
        simp [h0] at hh
        simpa using hh
      rw [this]; simp
  | true =>
    obtain ⟨j, b, rfl, hj, hb⟩ := s.hs_in i hh
    rw [Sp.tk_in hb, Sp.fr_in hb]
    have e1 : decide ((s.T.length : Int) ≤ (j : Int)) = false := by simp; omega
    have e2 : decide ((j : Int) < (s.r : Int)) = !decide ((s.r : Int) ≤ (j : Int)) := by
      rw [← decide_not]
      exact decide_eq_decide.2 (by omega)
    rw [e1, e2]
    cases b <;> simp

/-- The document's map in block g; all its blocks are of F. -/
structure RAt (w : World) (F : Nat → Prop) (g n r : Nat) (L : List Nat) (A : Option Addr) (c : Nat) : Prop where
  blk : Blk w g 39 #[.int .i64 (n : Int), .int .i64 (r : Int), .slice A L.length c]
  row : w.ownsRow 0 3 1 (.slice A L.length c) L.length (nis L)
  Ag : ∀ b, A.map (·.block) = some b → b ≠ g ∧ F b
  Fg : F g
  lt : ∀ j, F j → j < w.heap.size
def RMp (w : World) (F : Nat → Prop) (g n r : Nat) (L : List Nat) : Prop := ∃ A c, RAt w F g n r L A c
def RLeft (w w' : World) (F : Nat → Prop) (g n r : Nat) (L : List Nat) : Prop := ∃ F' : Nat → Prop, RMp w' F' g n r L ∧ Kp F w w' ∧ ∀ j, F' j → F j ∨ w.heap.size ≤ j
section
variable {w w' : World} {F : Nat → Prop} {g n r : Nat} {L : List Nat}
theorem RMp.keep (h : RMp w F g n r L) (hs : w.heap.size ≤ w'.heap.size) (hk : ∀ j, F j → w'.heap[j]? = w.heap[j]?) : RMp w' F g n r L := by
  obtain ⟨A, c, h⟩ := h
  exact ⟨A, c, h.blk.keep (hk g h.Fg), own_keep h.row fun b hb => hk b (h.Ag b hb).2, h.Ag, h.Fg, fun j hj => Nat.lt_of_lt_of_le (h.lt j hj) hs⟩
theorem RMp.lt (h : RMp w F g n r L) : ∀ j, F j → j < w.heap.size := by
  obtain ⟨A, c, h⟩ := h
  exact h.lt
theorem RMp.bel (h : RMp w F g n r L) (hb : Below w.heap.size w w') : RMp w' F g n r L := h.keep hb.size fun j hj => hb.block j (h.lt j hj)
theorem RMp.kp {G : Nat → Prop} (h : RMp w F g n r L) (hk : Kp G w w') (hap : ∀ j, F j → ¬ G j) : RMp w' F g n r L := h.keep hk.size fun j hj => hk.block j (h.lt j hj) (hap j hj)
theorem RLeft.same (h : RMp w F g n r L) : RLeft w w F g n r L := ⟨F, h, Kp.refl _ _, fun _ hj => .inl hj⟩
theorem RAt.cells {A : Option Addr} {c : Nat} (h : RAt w F g n r L A c) : w.cell? ⟨g, 0, none⟩ = some (.int .i64 (n : Int)) ∧ w.cell? ⟨g, 1, none⟩ = some (.int .i64 (r : Int)) ∧ w.cell? ⟨g, 2, none⟩ = some (.slice A L.length c) := by
  have h0 := h.blk.cell 0
  have h1 := h.blk.cell 1
  have h2 := h.blk.cell 2
  simp at h0 h1 h2
  exact ⟨h0, h1, h2⟩
theorem own_zero {w : World} {base : Nat} {e : TypeId} {z m : Nat} {v : Value} {xs : List Value} (h : w.ownsRow base e z v m xs) : w.ownsRow 0 e z v m xs := by
  refine ⟨h.1, ?_⟩
  rcases h.2 with h2 | ⟨b, cap, cur, hv, _, h3⟩
  · exact .inl h2
  · exact .inr ⟨b, cap, cur, hv, Nat.zero_le _, h3⟩
theorem own_ge {w : World} {base : Nat} {e : TypeId} {z m c : Nat} {A : Option Addr} {xs : List Value} (h : w.ownsRow base e z (.slice A m c) m xs) (b : Nat) (hb : A.map (·.block) = some b) : base ≤ b := by
  rcases h.2 with ⟨hv, _⟩ | ⟨g, cap, cur, hv, hg, _⟩
  · injection hv with hA; subst hA; cases hb
  · injection hv with hA
    subst hA
    simp at hb
    omega
/-- Another row laid into the map. -/
theorem RAt.next {A A' : Option Addr} {c c' m : Nat} {L' : List Nat} (h : RAt w F g n r L A c) {w1 : World} (hb : Below w.heap.size w w1) (hm : m = L'.length) (ho : w1.ownsRow w.heap.size 3 1 (.slice A' m c') m (nis L')) :
    RLeft w (w1.setCell ⟨g, 2, none⟩ (.slice A' m c')) F g n r L' := by
  subst hm
  have hg := grown_setCell w1 g 2 (.slice A' L'.length c')
  have hgl := h.lt g h.Fg
  refine ⟨fun j => j = g ∨ (w.heap.size ≤ j ∧ j < w1.heap.size), ⟨A', c', ?_, ?_, fun b hb => ?_, .inl rfl, fun j hj => ?_⟩, ?_, fun j hj => ?_⟩
  · exact (h.blk.keep (hb.block g hgl)).store 2 _
  · exact own_keep (own_zero ho) fun b hA => hg.block b (own_lt ho b hA) (fun e => by injection e with e; have := own_ge ho b hA; omega)
  · have h1 := own_ge ho b hb
    have h2 := own_lt ho b hb
    exact ⟨by omega, .inr ⟨h1, h2⟩⟩
  · have := hg.size
    have := hb.size
    rcases hj with hj | hj <;> omega
  · exact (Kp.ofBelow hb).step (Kp.setCell (F := fun j => j = g) w1 g 2 _ rfl) (fun j hj => .inl (hj ▸ h.Fg))
  · rcases hj with hj | hj
    · exact .inl (hj ▸ h.Fg)
    · exact .inr hj.1
theorem RAt.elem {A : Option Addr} {c : Nat} (h : RAt w F g n r L A c) {j : Nat} (hj : j < L.length) : ∃ b, A = some ⟨b, 0, none⟩ ∧ b < w.heap.size ∧ w.cell? ⟨b, j, none⟩ = some (.int .i64 (L[j] : Int)) := by
  obtain ⟨b, hA, hlt, hr⟩ := own_range h.row (by omega)
  have := hr j (.int .i64 (L[j] : Int)) (by simp [nis, hj])
  rw [Nat.zero_add] at this
  exact ⟨b, hA, hlt, this⟩
end
end Go.Proofs.Ytfkaobpfdpfahaa
