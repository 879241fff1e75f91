/- How the document's vault lies in memory; whether a key is destroyed, what Open answers, of the document's vault. Nothing is assumed. -/
import Derived.Test.YtaailoodhaibiaaVtLaw
namespace Go.Proofs.Ytaailoodhaibiaa
open Go.RowKit

/-- The cells of an entry of the document's vault. -/
def rec5 (x : En) : List Value := [.int .i64 x.k.t, .int .i64 x.k.c, .int .i64 x.k.e, .string (str x.b), .string (str x.p)]
def recs (L : List En) : List Value := L.flatMap rec5
theorem recs_app (a b : List En) : recs (a ++ b) = recs a ++ recs b := by simp [recs]
theorem recs_one (x : En) : recs [x] = rec5 x := by simp [recs]
theorem recs_len (L : List En) : (recs L).length = L.length * 5 := by
  induction L with
  | nil => rfl
  | cons x r ih =>
    show (rec5 x ++ recs r).length = _
    rw [List.length_append, ih]
    simp [rec5]
    omega
theorem rec5_cell (x : En) : ∀ u ∈ rec5 x, u.oneCell' = true := by
  intro u hu
  simp only [rec5, List.mem_cons, List.not_mem_nil, or_false] at hu
  rcases hu with rfl | rfl | rfl | rfl | rfl <;> rfl
theorem recs_cell (L : List En) : ∀ u ∈ recs L, u.oneCell' = true := by
  intro u hu
  obtain ⟨x, _, hx⟩ := List.mem_flatMap.1 hu
  exact rec5_cell x u hx
theorem recs_at (L : List En) {j : Nat} (hj : j < L.length) : ∀ t u, (rec5 L[j])[t]? = some u → (recs L)[j * 5 + t]? = some u := by
  intro t u hu
  have hl : (recs (L.take j)).length = j * 5 := by
    rw [recs_len, List.length_take, Nat.min_eq_left (Nat.le_of_lt hj)]
  have ht := (List.getElem?_eq_some_iff.1 hu).1
  have e : recs L = recs (L.take j) ++ (rec5 L[j] ++ recs (L.drop (j + 1))) := by
    conv => lhs; rw [show L = L.take j ++ (L[j] :: L.drop (j + 1)) by simp]
    rw [recs_app]
    rfl
  rw [e, List.getElem?_append_right (by omega), List.getElem?_append_left (by rw [hl]; simp only [Nat.add_sub_cancel_left]; exact ht), hl, Nat.add_sub_cancel_left]
  exact hu

/-- The document's vault in block g, by what it is; all its blocks are of F. -/
structure RVAt (w : World) (F : Nat → Prop) (g : Nat) (s : Va) (A : Option Addr) (c : Nat) (B : Option Addr) (d : Nat) : Prop where
  blk : Blk w g 30 #[.slice A s.L.length c, .slice B s.G.length d]
  row : w.ownsRow 0 51 5 (.slice A s.L.length c) s.L.length (recs s.L)
  gon : KRow w B d s.G
  Ag : ∀ b, A.map (·.block) = some b → b ≠ g ∧ F b ∧ B.map (·.block) ≠ some b
  Bg : ∀ b, B.map (·.block) = some b → b ≠ g ∧ F b
  Fg : F g
  F : ∀ j, F j → j < w.heap.size
def RVt (w : World) (F : Nat → Prop) (g : Nat) (s : Va) : Prop := ∃ A c B d, RVAt w F g s A c B d
section
variable {w w' : World} {F G : Nat → Prop} {g : Nat} {s : Va} {c d : Nat} {A B : Option Addr}
theorem RVAt.keep (h : RVAt w F g s A c B d) (hs : w.heap.size ≤ w'.heap.size) (hk : ∀ j, F j → w'.heap[j]? = w.heap[j]?) : RVAt w' F g s A c B d :=
  ⟨h.blk.keep (hk g h.Fg), own_keep h.row fun b hb => hk b (h.Ag b hb).2.1, h.gon.keep fun b hb => hk b (h.Bg b hb).2, h.Ag, h.Bg, h.Fg, fun j hj => Nat.lt_of_lt_of_le (h.F j hj) hs⟩
theorem RVAt.bel (h : RVAt w F g s A c B d) (hb : Below w.heap.size w w') : RVAt w' F g s A c B d := h.keep hb.size fun j hj => hb.block j (h.F j hj)
theorem RVAt.cells (h : RVAt w F g s A c B d) : w.cell? ⟨g, 0, none⟩ = some (.slice A s.L.length c) ∧ w.cell? ⟨g, 1, none⟩ = some (.slice B s.G.length d) := by
  have h0 := h.blk.cell 0
  have h1 := h.blk.cell 1
  simp at h0 h1
  exact ⟨h0, h1⟩
theorem RVAt.elem (h : RVAt w F g s A c B d) {j : Nat} (hj : j < s.L.length) : ∃ b, A = some ⟨b, 0, none⟩ ∧ b < w.heap.size ∧ w.rangeAt b (j * 5) (rec5 s.L[j]) := by
  obtain ⟨b, hA, hlt, hr⟩ := own_range h.row (by omega)
  exact ⟨b, hA, hlt, fun t u hu => by
    have := hr (j * 5 + t) u (recs_at s.L hj t u hu)
    rwa [Nat.zero_add] at this⟩
theorem RVt.keep (h : RVt w F g s) (hs : w.heap.size ≤ w'.heap.size) (hk : ∀ j, F j → w'.heap[j]? = w.heap[j]?) : RVt w' F g s := by
  obtain ⟨A, c, B, d, h⟩ := h
  exact ⟨A, c, B, d, h.keep hs hk⟩
theorem RVt.lt (h : RVt w F g s) : ∀ j, F j → j < w.heap.size := by
  obtain ⟨A, c, B, d, h⟩ := h
  exact h.F
theorem RVt.bel (h : RVt w F g s) (hb : Below w.heap.size w w') : RVt w' F g s := h.keep hb.size fun j hj => hb.block j (h.lt j hj)
theorem RVt.kp (h : RVt w F g s) (hk : Kp G w w') (hap : ∀ j, F j → ¬ G j) : RVt w' F g s := h.keep hk.size fun j hj => hk.block j (h.lt j hj) (hap j hj)
/-- What a call leaves of the document's vault. -/
def RVLeft (w w' : World) (F : Nat → Prop) (g : Nat) (s : Va) : Prop := ∃ F' : Nat → Prop, RVt w' F' g s ∧ Kp F w w' ∧ ∀ j, F' j → F j ∨ w.heap.size ≤ j
theorem RVLeft.same (h : RVt w F g s) (hb : Below w.heap.size w w') : RVLeft w w' F g s := ⟨F, h.bel hb, Kp.ofBelow hb, fun _ hj => .inl hj⟩
theorem RVLeft.after {w1 w2 : World} (hb : Below w.heap.size w w1) (h : RVLeft w1 w2 F g s) : RVLeft w w2 F g s := by
  obtain ⟨F2, hd, hk2, hF2⟩ := h
  exact ⟨F2, hd, (Kp.ofBelow hb).trans hk2, fun j hj => by
    rcases hF2 j hj with e | e
    · exact .inl e
    · exact .inr (Nat.le_trans hb.size e)⟩
end

set_option maxHeartbeats 2000000 in
theorem rgone_c (w : World) (F : Nat → Prop) (g : Nat) (s : Va) (h : RVt w F g s) (k : Ky) (hG : s.G.length ≤ 1000000) :
    Calls Try.prog 19 #[.pointer (some ⟨g, 0, none⟩), (.agg #[.int .i64 (k).t, .int .i64 (k).c, .int .i64 (k).e])] w fun e w' => e = .returned (.bool (decide (k ∈ s.G))) ∧ Below w.heap.size w w' := by
  obtain ⟨A, c, B, d, h⟩ := h
  have hb0 : Below w.heap.size w (w.alloc (.cells #[.int .i64 k.t, .int .i64 k.c, .int .i64 k.e] 32)) := (Below.refl _ _).alloc (Nat.le_refl _) _
  have hK0 := Blk.new w 32 #[.int .i64 k.t, .int .i64 k.c, .int .i64 k.e]
  have g1 := (h.bel hb0).cells.2
  have HH := hid h
  have HB0 := hid hb0
  have HK0 := hid hK0
  have HG := hid hG
  clear h hb0 hK0 hG
  go_enter Try.func19, Try.ntmps19
  go_wp2_with fail
  clear g1
  generalize hn : s.G.length = n at *
  have HNN := hid hn
  clear hn
  go_loopg [12] n (fun kk iv wr => ∃ (j : Nat), iv = .int .i64 (j : Int) ∧ Hid (kk = n - j) ∧ Hid (j ≤ n) ∧ Hid (Blk wr w.heap.size 32 #[.int .i64 k.t, .int .i64 k.c, .int .i64 k.e]) ∧ Hid (Below w.heap.size w wr) ∧ Hid (∀ i, ∀ hi : i < s.G.length, i < j → s.G[i] ≠ k))
  case atStart => exact ⟨0, rfl, hid (by omega), hid (Nat.zero_le _), HK0, HB0, hid (fun i _ hi => absurd hi (by omega))⟩
  case round =>
    obtain ⟨j, rfl, hgk, hj, hK, hB, hno⟩ := hrel
    clear HB0 HK0
    rcases Nat.lt_or_ge j n with hlt | hge
    · have HLT := hid hlt
      obtain ⟨b, rfl, hbl, hr0⟩ := (HH.out.bel hB.out).gon.elem (j := j) (by rw [HNN.out]; exact HLT.out)
      have HQR := hid hr0
      have j1 : (0 : Int) ≤ (j : Int) := by omega
      have j2 : (j : Int) < (n : Int) := by omega
      have j3 : decide ((j : Int) < (n : Int)) = true := by simpa using hlt
      have j4 : decide (j < n) = true := by simpa using hlt
      have wj : wrap64 ((j : Int) + 1) = ((j + 1 : Nat) : Int) := by have := HG.out; unfold wrap64; omega
      generalize hq : s.G[j]'(by rw [HNN.out]; exact HLT.out) = q at *
      have HQE := hid hq
      have hb2 : Below wr.heap.size wr (wr.alloc (.cells #[.int .i64 q.t, .int .i64 q.c, .int .i64 q.e] 32)) := (Below.refl _ _).alloc (Nat.le_refl _) _
      have hK2 := hK.out.keep (hb2.block w.heap.size hK.out.lt)
      obtain ⟨c0, c1, c2⟩ := blk_cells hK2
      have HK2 := hid hK2
      have HB2 := hid (hB.out.trans (hb2.mono hB.out.size))
      have heq := eq_key q k
      clear hr0 hbl hq hb2 hK2 hlt hK hB
      by_cases hqk : q = k
      · rw [decide_eq_true hqk] at heq
        have HE : Hid (decide (k ∈ s.G) = true) := hid (decide_eq_true (by rw [← hqk, ← HQE.out]; exact List.getElem_mem _))
        clear hqk
        as_aux_lemma =>
        go_wp2_with (refine wpList_load_mid rfl 32 _ rfl b (j * 3) rfl [.int .i64 q.t, .int .i64 q.c, .int .i64 q.e] _ HQR.out Try.underlying32 rfl Try.infoKey ?_)
        go_ret
        exact ⟨by rw [HE.out]; rfl, HB2.out⟩
      · rw [decide_eq_false hqk] at heq
        have HNO : Hid (∀ i, ∀ hi : i < s.G.length, i < j + 1 → s.G[i] ≠ k) := hid (fun i hi hij => by
          by_cases e : i = j
          · subst e; rw [HQE.out]; exact hqk
          · exact hno.out i hi (by omega))
        clear hqk
        as_aux_lemma =>
        go_wp2_with (refine wpList_load_mid rfl 32 _ rfl b (j * 3) rfl [.int .i64 q.t, .int .i64 q.c, .int .i64 q.e] _ HQR.out Try.underlying32 rfl Try.infoKey ?_)
        go_roundg (n - (j + 1))
        case measure => have := hgk.out; have := HLT.out; omega
        case rel => exact ⟨j + 1, congrArg (Value.int .i64) (by first | exact wj | omega | rfl), hid rfl, hid (by have := HLT.out; omega), HK2, HB2, HNO⟩
    · have j3 : decide ((j : Int) < (n : Int)) = false := by simp; omega
      have j4 : decide (j < n) = false := by simp; omega
      have HE : Hid (decide (k ∈ s.G) = false) := hid (decide_eq_false (fun e => by
        obtain ⟨i, hi, he⟩ := List.getElem_of_mem e
        exact hno.out i hi (by have := HNN.out; omega) he))
      clear hge hgk hj
      as_aux_lemma =>
      go_wp2
      go_ret
      exact ⟨by rw [HE.out]; rfl, hB.out⟩
end Go.Proofs.Ytaailoodhaibiaa
