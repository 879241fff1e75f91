/- How the document's vault lies in memory; whether a key is destroyed, what Open answers, of the document's vault. Nothing is assumed. What Open of the document's vault answers. What Seal of the document's vault does; append of a whole slice of structs behind a row of the call's own. A vault and the document's vault, side by side: what is alike in both; what the law's own loops ask. -/
import Derived.Test.YtadhbjekbfdpiaaGreatVtB
namespace Go.Proofs.YtadhbjekbfdpiaaGreat
open Go.RowKit

/-- The cells of an entry of the document's vault. -/
def rec5 (x : En) : List Value := [.int .i64 x.k.t, .int .i64 x.k.c, .int .i64 x.k.e, .string (str x.b), .string (str x.p)]
def recs (L : List En) : List Value := L.flatMap rec5
theorem recs_app (a b : List En) : recs (a ++ b) = recs a ++ recs b := by simp [recs]
theorem recs_one (x : En) : recs [x] = rec5 x := by simp [recs]
theorem recs_len (L : List En) : (recs L).length = L.length * 5 := by
  induction L with
  | nil => rfl
  | cons x r ih =>
    show (rec5 x ++ recs r).length = _
    rw [List.length_append, ih]
    simp [rec5]
    omega
theorem rec5_cell (x : En) : ∀ u ∈ rec5 x, u.oneCell' = true := by
  intro u hu
  simp only [rec5, List.mem_cons, List.not_mem_nil, or_false] at hu
  rcases hu with rfl | rfl | rfl | rfl | rfl <;> rfl
theorem recs_cell (L : List En) : ∀ u ∈ recs L, u.oneCell' = true := by
  intro u hu
  obtain ⟨x, _, hx⟩ := List.mem_flatMap.1 hu
  exact rec5_cell x u hx
theorem recs_at (L : List En) {j : Nat} (hj : j < L.length) : ∀ t u, (rec5 L[j])[t]? = some u → (recs L)[j * 5 + t]? = some u := by
  intro t u hu
  have hl : (recs (L.take j)).length = j * 5 := by
    rw [recs_len, List.length_take, Nat.min_eq_left (Nat.le_of_lt hj)]
  have ht := (List.getElem?_eq_some_iff.1 hu).1
  have e : recs L = recs (L.take j) ++ (rec5 L[j] ++ recs (L.drop (j + 1))) := by
    conv => lhs; rw [show L = L.take j ++ (L[j] :: L.drop (j + 1)) by simp]
    rw [recs_app]
    rfl
  rw [e, List.getElem?_append_right (by omega), List.getElem?_append_left (by rw [hl]; simp only [Nat.add_sub_cancel_left]; exact ht), hl, Nat.add_sub_cancel_left]
  exact hu

/-- The document's vault in block g, by what it is; all its blocks are of F. -/
structure RVAt (w : World) (F : Nat → Prop) (g : Nat) (s : Va) (A : Option Addr) (c : Nat) (B : Option Addr) (d : Nat) : Prop where
  blk : Blk w g 40 #[.slice A s.L.length c, .slice B s.G.length d]
  row : w.ownsRow 0 210 5 (.slice A s.L.length c) s.L.length (recs s.L)
  gon : KRow w B d s.G
  Ag : ∀ b, A.map (·.block) = some b → b ≠ g ∧ F b ∧ B.map (·.block) ≠ some b
  Bg : ∀ b, B.map (·.block) = some b → b ≠ g ∧ F b
  Fg : F g
  F : ∀ j, F j → j < w.heap.size
def RVt (w : World) (F : Nat → Prop) (g : Nat) (s : Va) : Prop := ∃ A c B d, RVAt w F g s A c B d
section
variable {w w' : World} {F G : Nat → Prop} {g : Nat} {s : Va} {c d : Nat} {A B : Option Addr}
theorem RVAt.keep (h : RVAt w F g s A c B d) (hs : w.heap.size ≤ w'.heap.size) (hk : ∀ j, F j → w'.heap[j]? = w.heap[j]?) : RVAt w' F g s A c B d :=
  ⟨h.blk.keep (hk g h.Fg), own_keep h.row fun b hb => hk b (h.Ag b hb).2.1, h.gon.keep fun b hb => hk b (h.Bg b hb).2, h.Ag, h.Bg, h.Fg, fun j hj => Nat.lt_of_lt_of_le (h.F j hj) hs⟩
theorem RVAt.bel (h : RVAt w F g s A c B d) (hb : Below w.heap.size w w') : RVAt w' F g s A c B d := h.keep hb.size fun j hj => hb.block j (h.F j hj)
theorem RVAt.cells (h : RVAt w F g s A c B d) : w.cell? ⟨g, 0, none⟩ = some (.slice A s.L.length c) ∧ w.cell? ⟨g, 1, none⟩ = some (.slice B s.G.length d) := by
  have h0 := h.blk.cell 0
  have h1 := h.blk.cell 1
  simp at h0 h1
  exact ⟨h0, h1⟩
theorem RVAt.elem (h : RVAt w F g s A c B d) {j : Nat} (hj : j < s.L.length) : ∃ b, A = some ⟨b, 0, none⟩ ∧ b < w.heap.size ∧ w.rangeAt b (j * 5) (rec5 s.L[j]) := by
  obtain ⟨b, hA, hlt, hr⟩ := own_range h.row (by omega)
  exact ⟨b, hA, hlt, fun t u hu => by
    have := hr (j * 5 + t) u (recs_at s.L hj t u hu)
    rwa [Nat.zero_add] at this⟩
theorem RVt.keep (h : RVt w F g s) (hs : w.heap.size ≤ w'.heap.size) (hk : ∀ j, F j → w'.heap[j]? = w.heap[j]?) : RVt w' F g s := by
  obtain ⟨A, c, B, d, h⟩ := h
  exact ⟨A, c, B, d, h.keep hs hk⟩
theorem RVt.lt (h : RVt w F g s) : ∀ j, F j → j < w.heap.size := by
  obtain ⟨A, c, B, d, h⟩ := h
  exact h.F
theorem RVt.bel (h : RVt w F g s) (hb : Below w.heap.size w w') : RVt w' F g s := h.keep hb.size fun j hj => hb.block j (h.lt j hj)
theorem RVt.kp (h : RVt w F g s) (hk : Kp G w w') (hap : ∀ j, F j → ¬ G j) : RVt w' F g s := h.keep hk.size fun j hj => hk.block j (h.lt j hj) (hap j hj)
/-- What a call leaves of the document's vault. -/
def RVLeft (w w' : World) (F : Nat → Prop) (g : Nat) (s : Va) : Prop := ∃ F' : Nat → Prop, RVt w' F' g s ∧ Kp F w w' ∧ ∀ j, F' j → F j ∨ w.heap.size ≤ j
theorem RVLeft.same (h : RVt w F g s) (hb : Below w.heap.size w w') : RVLeft w w' F g s := ⟨F, h.bel hb, Kp.ofBelow hb, fun _ hj => .inl hj⟩
theorem RVLeft.after {w1 w2 : World} (hb : Below w.heap.size w w1) (h : RVLeft w1 w2 F g s) : RVLeft w w2 F g s := by
  obtain ⟨F2, hd, hk2, hF2⟩ := h
  exact ⟨F2, hd, (Kp.ofBelow hb).trans hk2, fun j hj => by
    rcases hF2 j hj with e | e
    · exact .inl e
    · exact .inr (Nat.le_trans hb.size e)⟩
end

set_option maxRecDepth 100000 in
set_option maxHeartbeats 2000000 in
theorem rgone_c (w : World) (F : Nat → Prop) (g : Nat) (s : Va) (h : RVt w F g s) (k : Ky) (hG : s.G.length ≤ 1000000) :
    Calls Tryz.prog 131 #[.pointer (some ⟨g, 0, none⟩), (.agg #[.int .i64 (k).t, .int .i64 (k).c, .int .i64 (k).e])] w fun e w' => e = .returned (.bool (decide (k ∈ s.G))) ∧ Below w.heap.size w w' := by
  obtain ⟨A, c, B, d, h⟩ := h
  have hb0 : Below w.heap.size w (w.alloc (.cells #[.int .i64 k.t, .int .i64 k.c, .int .i64 k.e] 54)) := (Below.refl _ _).alloc (Nat.le_refl _) _
  have hK0 := Blk.new w 54 #[.int .i64 k.t, .int .i64 k.c, .int .i64 k.e]
  have g1 := (h.bel hb0).cells.2
  have HH := hid h
  have HB0 := hid hb0
  have HK0 := hid hK0
  have HG := hid hG
  clear h hb0 hK0 hG
  go_enter Tryz.func131, Tryz.ntmps131
  go_wp2_with fail
  clear g1
  generalize hn : s.G.length = n at *
  have HNN := hid hn
  clear hn
  go_loopg [12] n (fun kk iv wr => ∃ (j : Nat), iv = .int .i64 (j : Int) ∧ Hid (kk = n - j) ∧ Hid (j ≤ n) ∧ Hid (Blk wr w.heap.size 54 #[.int .i64 k.t, .int .i64 k.c, .int .i64 k.e]) ∧ Hid (Below w.heap.size w wr) ∧ Hid (∀ i, ∀ hi : i < s.G.length, i < j → s.G[i] ≠ k))
  case atStart => exact ⟨0, rfl, hid (by omega), hid (Nat.zero_le _), HK0, HB0, hid (fun i _ hi => absurd hi (by omega))⟩
  case round =>
    obtain ⟨j, rfl, hgk, hj, hK, hB, hno⟩ := hrel
    clear HB0 HK0
    rcases Nat.lt_or_ge j n with hlt | hge
    · have HLT := hid hlt
      obtain ⟨b, rfl, hbl, hr0⟩ := (HH.out.bel hB.out).gon.elem (j := j) (by rw [HNN.out]; exact HLT.out)
      have HQR := hid hr0
      have j1 : (0 : Int) ≤ (j : Int) := by omega
      have j2 : (j : Int) < (n : Int) := by omega
      have j3 : decide ((j : Int) < (n : Int)) = true := by simpa using hlt
      have j4 : decide (j < n) = true := by simpa using hlt
      have wj : wrap64 ((j : Int) + 1) = ((j + 1 : Nat) : Int) := by have := HG.out; unfold wrap64; omega
      generalize hq : s.G[j]'(by rw [HNN.out]; exact HLT.out) = q at *
      have HQE := hid hq
      have hb2 : Below wr.heap.size wr (wr.alloc (.cells #[.int .i64 q.t, .int .i64 q.c, .int .i64 q.e] 54)) := (Below.refl _ _).alloc (Nat.le_refl _) _
      have hK2 := hK.out.keep (hb2.block w.heap.size hK.out.lt)
      obtain ⟨c0, c1, c2⟩ := blk_cells hK2
      have HK2 := hid hK2
      have HB2 := hid (hB.out.trans (hb2.mono hB.out.size))
      have heq := eq_key q k
      clear hr0 hbl hq hb2 hK2 hlt hK hB
      by_cases hqk : q = k
      · rw [decide_eq_true hqk] at heq
        have HE : Hid (decide (k ∈ s.G) = true) := hid (decide_eq_true (by rw [← hqk, ← HQE.out]; exact List.getElem_mem _))
        clear hqk
        as_aux_lemma =>
        go_wp2_with (refine wpList_load_mid rfl 54 _ rfl b (j * 3) rfl [.int .i64 q.t, .int .i64 q.c, .int .i64 q.e] _ HQR.out Tryz.underlying54 rfl Tryz.infoKey ?_)
        go_ret
        exact ⟨by rw [HE.out]; rfl, HB2.out⟩
      · rw [decide_eq_false hqk] at heq
        have HNO : Hid (∀ i, ∀ hi : i < s.G.length, i < j + 1 → s.G[i] ≠ k) := hid (fun i hi hij => by
          by_cases e : i = j
          · subst e; rw [HQE.out]; exact hqk
          · exact hno.out i hi (by omega))
        clear hqk
        as_aux_lemma =>
        go_wp2_with (refine wpList_load_mid rfl 54 _ rfl b (j * 3) rfl [.int .i64 q.t, .int .i64 q.c, .int .i64 q.e] _ HQR.out Tryz.underlying54 rfl Tryz.infoKey ?_)
        go_roundg (n - (j + 1))
        case measure => have := hgk.out; have := HLT.out; omega
        case rel => exact ⟨j + 1, congrArg (Value.int .i64) (by first | exact wj | omega | rfl), hid rfl, hid (by have := HLT.out; omega), HK2, HB2, HNO⟩
    · have j3 : decide ((j : Int) < (n : Int)) = false := by simp; omega
      have j4 : decide (j < n) = false := by simp; omega
      have HE : Hid (decide (k ∈ s.G) = false) := hid (decide_eq_false (fun e => by
        obtain ⟨i, hi, he⟩ := List.getElem_of_mem e
        exact hno.out i hi (by have := HNN.out; omega) he))
      clear hge hgk hj
      as_aux_lemma =>
      go_wp2
      go_ret
      exact ⟨by rw [HE.out]; rfl, hB.out⟩
end Go.Proofs.YtadhbjekbfdpiaaGreat
/- What Open of the document's vault answers. -/
namespace Go.Proofs.YtadhbjekbfdpiaaGreat
open Go.RowKit

theorem Tryz.infoEn : (Tryz.prog.info? 210).map (fun i => (i.zero, i.size, i.bytes)) = some (some (.agg #[.int .i64 0, .int .i64 0, .int .i64 0, .string ⟨#[]⟩, .string ⟨#[]⟩]), 5, 56) := by kernel_rfl
theorem Tryz.infoEn1 : (Tryz.prog.info? 210).map (·.size) = some 5 := by kernel_rfl
theorem opX_found {s : Va} {k : Ky} {b : List UInt8} {j : Nat} (hj : j < s.L.length) (h1 : s.L[j].k = k) (h2 : s.L[j].b = b) : opX s k b (j + 1) = some s.L[j].p := by
  unfold opX behind
  rw [if_neg (by omega), Nat.add_sub_cancel, List.getElem?_eq_getElem hj]
  show (if s.L[j].k = k ∧ s.L[j].b = b then some s.L[j].p else none) = _
  rw [if_pos ⟨h1, h2⟩]
theorem opX_none {s : Va} {k : Ky} {b : List UInt8} {hd : Nat} (h : ∀ i, ∀ hi : i < s.L.length, ¬ (i + 1 = hd ∧ s.L[i].k = k ∧ s.L[i].b = b)) : opX s k b hd = none := by
  unfold opX behind
  by_cases h0 : hd = 0
  · rw [if_pos h0]; rfl
  · rw [if_neg h0]
    obtain ⟨i, rfl⟩ : ∃ i, hd = i + 1 := ⟨hd - 1, by omega⟩
    rw [Nat.add_sub_cancel]
    by_cases hi : i < s.L.length
    · rw [List.getElem?_eq_getElem hi]
      show (if s.L[i].k = k ∧ s.L[i].b = b then some s.L[i].p else none) = _
      rw [if_neg (fun e => h i hi ⟨rfl, e⟩)]
    · rw [List.getElem?_eq_none (by omega)]
      rfl
set_option maxRecDepth 100000 in
set_option maxHeartbeats 4000000 in
theorem ropen_c (w : World) (F : Nat → Prop) (g : Nat) (s : Va) (h : RVt w F g s) (k : Ky) (b : List UInt8) (H : Int) (hd : Nat) (hH : H = (hd : Int)) (hG : s.G.length ≤ 1000000) (hL : s.L.length ≤ 1000000) :
    Calls Tryz.prog 110 #[.pointer (some ⟨g, 0, none⟩), (.agg #[.int .i64 (k).t, .int .i64 (k).c, .int .i64 (k).e]), .string (str b), .int .u64 H] w fun e w' => e = .returned (.tuple #[.string (str (opB s k b hd)), .int .i64 (opE s k b hd)]) ∧ Below w.heap.size w w' := by
  have hb0 : Below w.heap.size w (w.alloc (.cells #[.int .i64 k.t, .int .i64 k.c, .int .i64 k.e] 54)) := (Below.refl _ _).alloc (Nat.le_refl _) _
  have hK0 := Blk.new w 54 #[.int .i64 k.t, .int .i64 k.c, .int .i64 k.e]
  have hgo := rgone_c _ F g s (h.bel hb0) k hG
  obtain ⟨A, c, B, d, h⟩ := h
  have HH := hid h
  have HB0 := hid hb0
  have HK0 := hid hK0
  have HLL := hid hL
  obtain rfl := hH
  clear h hb0 hK0 hG hL
  by_cases hGG : k ∈ s.G
  · rw [decide_eq_true hGG] at hgo
    have HE : Hid (opE s k b hd = 50) := hid (if_pos hGG)
    have HO : Hid (opB s k b hd = []) := hid (if_pos hGG)
    rw [HE.out, HO.out]
    clear hGG HE HO
    go_enter Tryz.func110, Tryz.ntmps110
    go_wp2_with fail
    refine hgo.mono ?_
    rintro e w1 ⟨rfl, hb1⟩
    have HB1 := hid (HB0.out.trans (hb1.mono HB0.out.size))
    clear hgo hb1
    go_wp2
    go_ret2
    exact ⟨rfl, HB1.out⟩
  rw [decide_eq_false hGG] at hgo
  have HE : Hid (opE s k b hd = if (opX s k b hd).isSome then 0 else 51) := hid (if_neg hGG)
  have HO : Hid (opB s k b hd = (opX s k b hd).getD []) := hid (if_neg hGG)
  clear hGG
  go_enter Tryz.func110, Tryz.ntmps110
  go_wp2_with fail
  refine hgo.mono ?_
  rintro e w1 ⟨rfl, hb1⟩
  have HB1 := hid (HB0.out.trans (hb1.mono HB0.out.size))
  have HK1 := hid (HK0.out.keep (hb1.block w.heap.size HK0.out.lt))
  have g1 := (HH.out.bel HB1.out).cells.1
  clear hgo hb1 HB0 HK0
  generalize hn : s.L.length = n at *
  have HNN := hid hn
  clear hn
  go_wp2_with fail
  clear g1
  go_loopg [20] n (fun kk iv wr => ∃ (j : Nat), iv = .int .i64 (j : Int) ∧ Hid (kk = n - j) ∧ Hid (j ≤ n) ∧ Hid (Blk wr w.heap.size 54 #[.int .i64 k.t, .int .i64 k.c, .int .i64 k.e]) ∧ Hid (Below w.heap.size w wr) ∧ Hid (∀ i, ∀ hi : i < s.L.length, i < j → ¬ (i + 1 = hd ∧ s.L[i].k = k ∧ s.L[i].b = b)))
  case atStart => exact ⟨0, rfl, hid (by omega), hid (Nat.zero_le _), HK1, HB1, hid (fun i _ hi => absurd hi (by omega))⟩
  case round =>
  obtain ⟨j, rfl, hgk, hj, hK, hB, hno⟩ := hrel
  clear HB1 HK1
  rcases Nat.lt_or_ge j n with hlt | hge
  · have HLT := hid hlt
    obtain ⟨lb, rfl, hbl, hr0⟩ := (HH.out.bel hB.out).elem (j := j) (by rw [HNN.out]; exact HLT.out)
    have HQR := hid hr0
    have j1 : (0 : Int) ≤ (j : Int) := by omega
    have j2 : (j : Int) < (n : Int) := by omega
    have j3 : decide ((j : Int) < (n : Int)) = true := by simpa using hlt
    have j4 : decide (j < n) = true := by simpa using hlt
    have wj : wrap64 ((j : Int) + 1) = ((j + 1 : Nat) : Int) := by have := HLL.out; unfold wrap64; omega
    have wu1 : IntKind.u64.wrap (j : Int) = (j : Int) := wrapu (by omega) (by have := HLL.out; omega)
    have wu2 : IntKind.u64.wrap ((j : Int) + 1) = ((j + 1 : Nat) : Int) := by rw [wrapu (by omega) (by have := HLL.out; omega)]; rfl
    generalize hq : s.L[j]'(by rw [HNN.out]; exact HLT.out) = q at *
    have HQE := hid hq
    have hb2 : Below wr.heap.size wr (wr.alloc (.cells #[.int .i64 q.k.t, .int .i64 q.k.c, .int .i64 q.k.e, .string (str q.b), .string (str q.p)] 210)) := (Below.refl _ _).alloc (Nat.le_refl _) _
    have hK2 := hK.out.keep (hb2.block w.heap.size hK.out.lt)
    obtain ⟨c0, c1, c2⟩ := blk_cells hK2
    have HK2 := hid hK2
    have HB2 := hid (hB.out.trans (hb2.mono hB.out.size))
    have heq := eq_key q.k k
    clear hr0 hbl hq hb2 hK2 hlt hK hB
    have HNX : Hid (¬ (j + 1 = hd ∧ q.k = k ∧ q.b = b) → ∀ i, ∀ hi : i < s.L.length, i < j + 1 → ¬ (i + 1 = hd ∧ s.L[i].k = k ∧ s.L[i].b = b)) := hid (fun hne i hi hij => by
      by_cases e : i = j
      · subst e; rw [HQE.out]; exact hne
      · exact hno.out i hi (by omega))
    by_cases h1 : j + 1 = hd
    · subst h1
      by_cases h2 : q.k = k
      · rw [decide_eq_true h2] at heq
        by_cases h3 : q.b = b
        · have v5 : ((str q.b).toList == (str b).toList) = true := by rw [h3]; simp
          have HX : Hid (opX s k b (j + 1) = some q.p) := hid (by rw [← HQE.out]; exact opX_found (by rw [HNN.out]; exact HLT.out) (by rw [HQE.out]; exact h2) (by rw [HQE.out]; exact h3))
          clear h2 h3
          as_aux_lemma =>
          go_wp2_with (refine wpList_load_mid rfl 210 _ rfl lb (j * 5) rfl [.int .i64 q.k.t, .int .i64 q.k.c, .int .i64 q.k.e, .string (str q.b), .string (str q.p)] _ HQR.out Tryz.underlying210 rfl Tryz.infoEn1 ?_)
          go_ret2
          exact ⟨by rw [HE.out, HO.out, HX.out]; rfl, HB2.out⟩
        · have v5 := str_ne h3
          have HNO := hid (HNX.out (fun e => h3 e.2.2))
          clear h2 h3
          as_aux_lemma =>
          go_wp2_with (refine wpList_load_mid rfl 210 _ rfl lb (j * 5) rfl [.int .i64 q.k.t, .int .i64 q.k.c, .int .i64 q.k.e, .string (str q.b), .string (str q.p)] _ HQR.out Tryz.underlying210 rfl Tryz.infoEn1 ?_)
          go_roundg (n - (j + 1))
          case measure => have := hgk.out; have := HLT.out; omega
          case rel => exact ⟨j + 1, congrArg (Value.int .i64) (by first | exact wj | omega | rfl), hid rfl, hid (by have := HLT.out; omega), HK2, HB2, HNO⟩
      · rw [decide_eq_false h2] at heq
        have HNO := hid (HNX.out (fun e => h2 e.2.1))
        clear h2
        as_aux_lemma =>
        go_wp2_with (refine wpList_load_mid rfl 210 _ rfl lb (j * 5) rfl [.int .i64 q.k.t, .int .i64 q.k.c, .int .i64 q.k.e, .string (str q.b), .string (str q.p)] _ HQR.out Tryz.underlying210 rfl Tryz.infoEn1 ?_)
        go_roundg (n - (j + 1))
        case measure => have := hgk.out; have := HLT.out; omega
        case rel => exact ⟨j + 1, congrArg (Value.int .i64) (by first | exact wj | omega | rfl), hid rfl, hid (by have := HLT.out; omega), HK2, HB2, HNO⟩
    · obtain ⟨J, hJ⟩ : ∃ J : Nat, J = j + 1 := ⟨_, rfl⟩
      rw [← hJ] at wu2
      have e1 : ((J : Int) == (hd : Int)) = false := by simp; omega
      have e2 : decide ((J : Int) = (hd : Int)) = false := by simp; omega
      have e3 : (J == hd) = false := by simp; omega
      have e4 : decide (J = hd) = false := by simp; omega
      have e5 : ¬ J = hd := by omega
      have HJ := hid hJ
      clear hJ
      have HNO := hid (HNX.out (fun e => h1 e.1))
      clear h1
      as_aux_lemma =>
      go_wp2_with (refine wpList_load_mid rfl 210 _ rfl lb (j * 5) rfl [.int .i64 q.k.t, .int .i64 q.k.c, .int .i64 q.k.e, .string (str q.b), .string (str q.p)] _ HQR.out Tryz.underlying210 rfl Tryz.infoEn1 ?_)
      go_roundg (n - (j + 1))
      case measure => have := hgk.out; have := HLT.out; omega
      case rel => exact ⟨j + 1, congrArg (Value.int .i64) (by first | exact wj | omega | rfl), hid rfl, hid (by have := HLT.out; omega), HK2, HB2, HNO⟩
  · have j3 : decide ((j : Int) < (n : Int)) = false := by simp; omega
    have j4 : decide (j < n) = false := by simp; omega
    have HX : Hid (opX s k b hd = none) := hid (opX_none fun i hi => hno.out i hi (by have := HNN.out; omega))
    clear hge hgk hj
    as_aux_lemma =>
    go_wp2
    go_ret2
    exact ⟨by rw [HE.out, HO.out, HX.out]; rfl, hB.out⟩
end Go.Proofs.YtadhbjekbfdpiaaGreat

/- What Seal of the document's vault does; append of a whole slice of structs behind a row of the call's own. -/
namespace Go.Proofs.YtadhbjekbfdpiaaGreat
open Go.RowKit

theorem own_formz {w : World} {base : Nat} {e : TypeId} {z n : Nat} {v : Value} {xs : List Value} (h : w.ownsRow base e z v n xs) : ∃ A c, v = .slice A n c ∧ n ≤ c := by
  rcases h.2 with ⟨rfl, rfl⟩ | ⟨g, cap, cur, rfl, _, _, hnc, _⟩
  · exact ⟨none, 0, rfl, Nat.le_refl _⟩
  · exact ⟨_, _, rfl, hnc⟩
/-- What an append leaves: where the row lies, what else turned. -/
def Grew (base : Nat) (e : TypeId) (z : Nat) (w w' : World) (A A' : Option Addr) (n c : Nat) (xs : List Value) : Prop := w'.ownsRow base e z (.slice A' n c) n xs ∧ n ≤ c ∧ w.grownBy w' (A.map (·.block)) ∧ Lies A A' w.heap.size
/-- append(s, t...) of elements of z cells, behind a row of the call's own; also where t is empty. -/
theorem run_append_L {P : Program} (w : World) (t ty e : TypeId) (z0 : Value) (z by_ : Nat) (ht : P.underlying t = some (.slice e)) (hi : (P.info? e).map (fun i => (i.zero, i.size, i.bytes)) = some (some z0, z, by_)) (hz : z0.cells.size = z) (hz1 : 0 < z)
    (base : Nat) (A : Option Addr) (n c : Nat) (xs : List Value) (hown : w.ownsRow base e z (.slice A n c) n xs) (A2 : Option Addr) (m c2 : Nat)
    (news : List Value) (hl : news.length = m * z) (hr : 0 < m → ∃ b off, A2 = some ⟨b, off, none⟩ ∧ w.rangeAt b off news) (h1 : ∀ u ∈ news, u.oneCell' = true) (hn : (n + m) * by_ ≤ 140737488355328) (hn2 : n + m ≤ maxLen) (hbase : base ≤ w.heap.size) :
    ∃ A' c' w', (Builtin.append_ #[t, t] ty #[.slice A n c, .slice A2 m c2]).run P w = .ok (.slice A' (n + m) c') w' ∧ Grew base e z w w' A A' (n + m) c' (xs ++ news) := by
  obtain ⟨i, hi, hz0, hz1', hz2⟩ := info_parts hi
  have hv : (Value.slice A n c).ownBlock = A.map (·.block) := by cases A <;> rfl
  rcases Nat.eq_zero_or_pos m with h0 | h0
  · subst h0
    have hnil : news = [] := List.eq_nil_of_length_eq_zero (by simpa using hl)
    subst hnil
    obtain ⟨A3, c3, h3, hc3⟩ := own_formz hown
    injection h3 with h3 _ h4
    subst h3 h4
    refine ⟨A, c, w, ?_, by simpa using hown, hc3, grown_refl _ _, fun d hd => .inl hd⟩
    cases A <;> cases A2 <;> simp [Builtin.append_, run_underlying ht, sizeOf, typeInfo, hi, Builtin.lenOf, Builtin.firstCells, loadCells, loadCellsFrom, storeCells, hc3]
  · obtain ⟨b, off, rfl, hrr⟩ := hr h0
    obtain ⟨v', w', hrun, h2, h3, _, h5⟩ := run_append_own_at (P := P) w base t ty e i z0 z by_ ht hi hz0 hz1' hz2 hz hz1 _ n xs hown ⟨b, off, none⟩ m c2 news hl (fun j u hu => by rw [add_plain]; exact hrr j u hu) h1 hn2 hn hbase
    obtain ⟨A', c', rfl, hc'⟩ := own_formz h2
    have hv2 : (Value.slice A' (n + m) c').ownBlock = A'.map (·.block) := by cases A' <;> rfl
    rw [hv] at h3 h5
    rw [hv2] at h5
    exact ⟨A', c', w', hrun, h2, hc', h3, fun d hd => by
      rcases h5 with h5 | h5
      · exact .inl (h5 ▸ hd)
      · rw [h5] at hd; injection hd with hd; exact .inr hd.symm⟩
theorem wp_append_run {op : Oper} {a : Act} {w w' : World} {K : Act → World → Prop} {Q : Exit → Act → World → Prop} (t : TypeId) (s x : Operand) (ho : op.op = .call { callee := .builtin .append, args := #[s, x], argTypes := #[t, t] }) (vs vx v' : Value) (hs : a.eval s = vs) (hx : a.eval x = vx)
    (hrun : (Builtin.append_ #[t, t] op.type #[vs, vx]).run Tryz.prog w = .ok v' w') (h : K (a.put op.dst v') w') : op.wp Tryz.prog a w K Q := by
  unfold Oper.wp execOp
  simp only [ho, resolve, invoke, builtin, Sem.run_bind, Sem.run_pure, Result.andThen_ok, List.map_toArray, List.map_cons, List.map_nil, hs, hx, hrun]
  exact h
theorem run_buildSlice0 {P : Program} (w : World) (t e : TypeId) (hu : P.underlying t = some (.slice e)) (hi : (P.info? e).isSome = true) : (Instr.buildSlice t 0 #[]).run P w = .ok (.slice (some ⟨w.heap.size, 0, none⟩) 0 0) (w.alloc (.cells #[] e)) := by
  obtain ⟨ie, hie⟩ := Option.isSome_iff_exists.1 hi
  simp [Instr.buildSlice, run_underlying hu, sizeOf, typeInfo, hie, newRow, Instr.fill]
  rw [show (Array.map (fun _ => default) (Array.range 0) : Array Value) = #[] from Array.eq_empty_of_size_eq_zero (by simp)]
theorem wp_buildSlice0 {op : Oper} {a : Act} {w : World} {K : Act → World → Prop} {Q : Exit → Act → World → Prop} (t e : TypeId) (ho : op.op = .buildSlice t 0 #[]) (hu : Tryz.prog.underlying t = some (.slice e)) (hi : (Tryz.prog.info? e).isSome = true)
    (h : K (a.put op.dst (.slice (some ⟨w.heap.size, 0, none⟩) 0 0)) (w.alloc (.cells #[] e))) : op.wp Tryz.prog a w K Q := by
  unfold Oper.wp execOp
  simp only [ho, List.map_toArray, List.map_nil, Sem.run_bind, run_buildSlice0 w t e hu hi, Result.andThen_ok]
  exact h
theorem own_empty (w : World) (e : TypeId) (z base : Nat) (hb : base ≤ w.heap.size) : (w.alloc (.cells #[] e)).ownsRow base e z (.slice (some ⟨w.heap.size, 0, none⟩) 0 0) 0 [] :=
  ⟨by simp, .inr ⟨w.heap.size, 0, #[], rfl, hb, Blk.new w e #[], Nat.le_refl _, by unfold maxLen; omega, by simp, by simp⟩⟩
theorem own_ltb {w : World} {base : Nat} {e : TypeId} {z n c : Nat} {A : Option Addr} {xs : List Value} (h : w.ownsRow base e z (.slice A n c) n xs) (b : Nat) (hb : A.map (·.block) = some b) : base ≤ b := own_ge h b hb

/-- The document's vault with an entry more. -/
theorem RVAt.sealed {w w5 : World} {F : Nat → Prop} {g : Nat} {s : Va} {A : Option Addr} {c : Nat} {B : Option Addr} {d : Nat} (h : RVAt w F g s A c B d) (x : En) (hb : Below w.heap.size w w5) {A5 : Option Addr} {c5 : Nat}
    (ho : w5.ownsRow w.heap.size 210 5 (.slice A5 (s.L.length + 1) c5) (s.L.length + 1) (recs s.L ++ rec5 x)) :
    RVLeft w (w5.setCell ⟨g, 0, none⟩ (.slice A5 (s.L.length + 1) c5)) F g ⟨s.L ++ [x], s.G⟩ := by
  have hg6 := grown_setCell w5 g 0 (.slice A5 (s.L.length + 1) c5)
  have s5 := hb.size
  have s6 := hg6.size
  have lg := h.F g h.Fg
  have k6 : ∀ j, j < w5.heap.size → j ≠ g → (w5.setCell ⟨g, 0, none⟩ (.slice A5 (s.L.length + 1) c5)).heap[j]? = w5.heap[j]? := fun j hj hne => hg6.block j hj (fun e => hne (by injection e))
  refine ⟨fun j => (F j ∨ w.heap.size ≤ j) ∧ j < w5.heap.size, ⟨A5, c5, B, d, ?_, ?_, ?_, fun b hb' => ?_, fun b hb' => ?_, ⟨.inl h.Fg, by omega⟩, fun j hj => by have := hj.2; omega⟩, ?_, fun j hj => hj.1⟩
  · show Blk _ g _ #[.slice A5 (s.L ++ [x]).length c5, _]
    rw [List.length_append]
    exact (h.blk.keep (hb.block g lg)).store 0 (.slice A5 (s.L.length + 1) c5)
  · show World.ownsRow _ 0 _ 5 (.slice A5 (s.L ++ [x]).length c5) (s.L ++ [x]).length (recs (s.L ++ [x]))
    rw [List.length_append, recs_app, recs_one]
    exact own_keep (own_lower ho (Nat.zero_le _)) fun b hb' => k6 b (own_lt ho b hb') (by have := own_ge ho b hb'; omega)
  · exact h.gon.keep fun b hb' => by
      have := h.F b (h.Bg b hb').2
      exact (k6 b (by omega) (h.Bg b hb').1).trans (hb.block b this)
  · have h1 := own_ge ho b hb'
    have h2 := own_lt ho b hb'
    exact ⟨by omega, ⟨.inr h1, h2⟩, fun e => by have := h.F b (h.Bg b e).2; omega⟩
  · have := h.F b (h.Bg b hb').2
    exact ⟨(h.Bg b hb').1, .inl (h.Bg b hb').2, by omega⟩
  · exact ⟨hg6.os.trans hb.os, hg6.tape.trans hb.tape, hg6.output.trans hb.output, by omega, fun j hj hF =>
      (k6 j (by omega) (fun e => hF (e ▸ h.Fg))).trans (hb.block j hj)⟩
theorem built_en (k : Ky) (s p : ByteArray) : Tryz.prog.built 210 [(0, (.agg #[.int .i64 (k).t, .int .i64 (k).c, .int .i64 (k).e])), (1, .string s), (2, .string p)] = some #[.int .i64 k.t, .int .i64 k.c, .int .i64 k.e, .string s, .string p] := by kernel_rfl
theorem filled_en (k : Ky) (s p : ByteArray) : Instr.fill (fun j => some (j * 5, 5)) ((Array.range (1 * 5)).map ((#[.int .i64 0, .int .i64 0, .int .i64 0, .string ⟨#[]⟩, .string ⟨#[]⟩] : Array Value)[· % 5]!)) [(0, .agg #[.int .i64 k.t, .int .i64 k.c, .int .i64 k.e, .string s, .string p])] = some #[.int .i64 k.t, .int .i64 k.c, .int .i64 k.e, .string s, .string p] := by kernel_rfl
theorem Tryz.isInfoEn : (Tryz.prog.info? 210).isSome = true := by kernel_rfl

set_option maxRecDepth 100000 in
set_option maxHeartbeats 4000000 in
theorem rseal_c (w : World) (F : Nat → Prop) (g : Nat) (s : Va) (h : RVt w F g s) (k : Ky) (b p : List UInt8) (hG : s.G.length ≤ 1000000) (hL : s.L.length ≤ 1000000) :
    Calls Tryz.prog 97 #[.pointer (some ⟨g, 0, none⟩), (.agg #[.int .i64 (k).t, .int .i64 (k).c, .int .i64 (k).e]), .string (str b), .string (str p)] w fun e w' => e = .returned (.tuple #[.int .u64 (seH s k p.length : Int), .int .i64 (seE s k p.length)]) ∧ RVLeft w w' F g (seS s k b p) := by
  have hb0 : Below w.heap.size w (w.alloc (.cells #[.int .i64 k.t, .int .i64 k.c, .int .i64 k.e] 54)) := (Below.refl _ _).alloc (Nat.le_refl _) _
  have hK0 := Blk.new w 54 #[.int .i64 k.t, .int .i64 k.c, .int .i64 k.e]
  have hgo := rgone_c _ F g s (h.bel hb0) k hG
  obtain ⟨A, c, B, d, h⟩ := h
  have HH := hid h
  have HB0 := hid hb0
  have HK0 := hid hK0
  have HLL := hid hL
  have hps : (str p).size = p.length := str_size p
  clear h hb0 hK0 hG hL
  by_cases hbad : ¬ k.right ∨ 65536 < p.length
  · have HE : Hid (seE s k p.length = 2) := hid (if_pos hbad)
    have HHd : Hid (seH s k p.length = 0) := hid (if_pos hbad)
    have HS : Hid (seS s k b p = s) := hid (if_pos hbad)
    rw [HE.out, HHd.out, HS.out]
    clear HE HHd HS hgo
    go_enter Tryz.func97, Tryz.ntmps97
    by_cases h1 : k.t < 0
    · have e1 : decide (k.t < 0) = true := by simpa using h1
      clear h1 hbad
      as_aux_lemma =>
      go_wp2
      go_ret2
      exact ⟨rfl, RVLeft.same ⟨A, c, B, d, HH.out⟩ HB0.out⟩
    have e1 : decide (k.t < 0) = false := by simpa using h1
    by_cases h2 : k.c < 0
    · have e2 : decide (k.c < 0) = true := by simpa using h2
      clear h1 h2 hbad
      as_aux_lemma =>
      go_wp2
      go_ret2
      exact ⟨rfl, RVLeft.same ⟨A, c, B, d, HH.out⟩ HB0.out⟩
    have e2 : decide (k.c < 0) = false := by simpa using h2
    by_cases h3 : k.e < 0
    · have e3 : decide (k.e < 0) = true := by simpa using h3
      clear h1 h2 h3 hbad
      as_aux_lemma =>
      go_wp2
      go_ret2
      exact ⟨rfl, RVLeft.same ⟨A, c, B, d, HH.out⟩ HB0.out⟩
    have e3 : decide (k.e < 0) = false := by simpa using h3
    have hlen : 65536 < p.length := by
      rcases hbad with hb | hb
      · exact absurd (show k.right from ⟨by omega, by omega, by omega⟩) hb
      · exact hb
    have e4 : decide ((65536 : Int) < (p.length : Int)) = true := by simp; omega
    have e5 : decide (65536 < p.length) = true := by simpa using hlen
    clear h1 h2 h3 hbad hlen
    as_aux_lemma =>
    go_wp2
    go_ret2
    exact ⟨rfl, RVLeft.same ⟨A, c, B, d, HH.out⟩ HB0.out⟩
  have hr : k.right := Classical.byContradiction fun e => hbad (.inl e)
  have e1 : decide (k.t < 0) = false := by have := hr.1; simp; omega
  have e2 : decide (k.c < 0) = false := by have := hr.2.1; simp; omega
  have e3 : decide (k.e < 0) = false := by have := hr.2.2; simp; omega
  have e4 : decide ((65536 : Int) < (p.length : Int)) = false := by simp; omega
  have e5 : decide (65536 < p.length) = false := by simp; omega
  obtain ⟨c0, c1, c2⟩ := blk_cells HK0.out
  by_cases hGG : k ∈ s.G
  · have HE : Hid (seE s k p.length = 50) := hid ((if_neg hbad).trans (if_pos hGG))
    have HHd : Hid (seH s k p.length = 0) := hid ((if_neg hbad).trans (if_pos hGG))
    have HS : Hid (seS s k b p = s) := hid ((if_neg hbad).trans (if_pos hGG))
    rw [HE.out, HHd.out, HS.out]
    rw [decide_eq_true hGG] at hgo
    clear HE HHd HS hbad hr hGG
    go_enter Tryz.func97, Tryz.ntmps97
    go_wp2_with fail
    refine hgo.mono ?_
    rintro e w1 ⟨rfl, hb1⟩
    have HB1 := hid (HB0.out.trans (hb1.mono HB0.out.size))
    clear hgo hb1
    go_wp2
    go_ret2
    exact ⟨rfl, RVLeft.same ⟨A, c, B, d, HH.out⟩ HB1.out⟩
  have HE : Hid (seE s k p.length = 0) := hid ((if_neg hbad).trans (if_neg hGG))
  have HHd : Hid (seH s k p.length = s.L.length + 1) := hid ((if_neg hbad).trans (if_neg hGG))
  have HS : Hid (seS s k b p = ⟨s.L ++ [⟨k, b, p⟩], s.G⟩) := hid ((if_neg hbad).trans (if_neg hGG))
  rw [HE.out, HHd.out, HS.out]
  rw [decide_eq_false hGG] at hgo
  have wu : IntKind.u64.wrap ((s.L.length + 1 : Nat) : Int) = ((s.L.length + 1 : Nat) : Int) := wrapu (by omega) (by have := HLL.out; omega)
  clear HE HHd HS hbad hr hGG
  generalize hNN : s.L.length + 1 = NN at *
  have HNN := hid hNN
  clear hNN
  go_enter Tryz.func97, Tryz.ntmps97
  go_wp2_with fail
  refine hgo.mono ?_
  rintro e w2 ⟨rfl, hb1⟩
  have HBW := hid (HB0.out.trans (hb1.mono HB0.out.size))
  have HV2 := hid (HH.out.bel HBW.out)
  have HK2 := hid (HK0.out.keep (hb1.block w.heap.size HK0.out.lt))
  have HKW : Hid (w.heap.size < w2.heap.size) := hid HK2.out.lt
  have HGW : Hid (g < w.heap.size) := hid (HH.out.F g HH.out.Fg)
  have HGV : Hid (g < w2.heap.size) := hid (by have := HGW.out; have := HKW.out; omega)
  have yd := HV2.out.cells.1
  clear hgo hb1 HB0 HK0 HH c0 c1 c2 e1 e2 e3 e4 e5 hps
  go_wp2_with fail
  refine wp_region_held_drew (S := fun wx => wx.heap[w.heap.size]? = w2.heap[w.heap.size]?) (by kernel_rfl) rfl (fun HS => ?_)
  have HBs : Hid (Below w2.heap.size w2 w2.drew) := hid (Below.refl _ _).drew
  refine wpAnyH_take (i := 0) (oi := ?oi0) (v := ?v0) ?hi0 (by kernel_rfl) (by kernel_rfl) (by kernel_rfl) ?hQ0 ?hy0 HS ?rest0
  case hi0 => simp only [List.getElem?_toArray, List.getElem?_cons_zero]; exact rfl
  case hQ0 => exact fun _ _ _ h => h
  case hy0 =>
    refine Or.inl ⟨by rfl, ?_⟩
    intro wS hSw
    go_simp
    try with_reducible rfl
  try simp only [Act.put, List.setIfInBounds_toArray, List.set_cons_zero, List.set_cons_succ]
  refine wpAnyH_take (i := 2) (oi := ?oi2) (v := ?v2) ?hi2 (by kernel_rfl) (by kernel_rfl) (by kernel_rfl) ?hQ2 ?hy2 HS ?rest2
  case hi2 => simp only [List.getElem?_toArray, List.getElem?_cons_succ, List.getElem?_cons_zero]; exact rfl
  case hQ2 => exact fun _ _ _ h => h
  case hy2 =>
    refine Or.inl ⟨by rfl, ?_⟩
    intro wS hSw
    go_simp
    try with_reducible rfl
  try simp only [Act.put, List.setIfInBounds_toArray, List.set_cons_zero, List.set_cons_succ]
  refine wpAnyH_take (i := 3) (oi := ?oi3) (v := ?v3) ?hi3 (by kernel_rfl) (by kernel_rfl) (by kernel_rfl) ?hQ3 ?hy3 HS ?rest3
  case hi3 => simp only [List.getElem?_toArray, List.getElem?_cons_succ, List.getElem?_cons_zero]; exact rfl
  case hQ3 => exact fun _ _ _ h => h
  case hy3 =>
    refine Or.inl ⟨by rfl, ?_⟩
    intro wS hSw
    go_simp
    try with_reducible rfl
  try simp only [Act.put, List.setIfInBounds_toArray, List.set_cons_zero, List.set_cons_succ]
  refine wpAnyH_take (i := 4) (oi := ?oi4) (v := ?v4) ?hi4 (by kernel_rfl) (by kernel_rfl) (by kernel_rfl) ?hQ4 ?hy4 HS ?rest4
  case hi4 => simp only [List.getElem?_toArray, List.getElem?_cons_succ, List.getElem?_cons_zero]; exact rfl
  case hQ4 => exact fun _ _ _ h => h
  case hy4 =>
    refine Or.inl ⟨by rfl, ?_⟩
    intro wS hSw
    go_simp
    try with_reducible rfl
  try simp only [Act.put, List.setIfInBounds_toArray, List.set_cons_zero, List.set_cons_succ]
  refine wpAnyH_take (i := 7) (oi := ?oi7) (v := ?v7) ?hi7 (by kernel_rfl) (by kernel_rfl) (by kernel_rfl) ?hQ7 ?hy7 HS ?rest7
  case hi7 => simp only [List.getElem?_toArray, List.getElem?_cons_succ, List.getElem?_cons_zero]; exact rfl
  case hQ7 => exact fun _ _ _ h => h
  case hy7 =>
    refine Or.inl ⟨by rfl, ?_⟩
    intro wS hSw
    have hKS := HK2.out.keep hSw
    obtain ⟨c0, c1, c2⟩ := blk_cells hKS
    go_simp
    try with_reducible rfl
  try simp only [Act.put, List.setIfInBounds_toArray, List.set_cons_zero, List.set_cons_succ]
  refine wpAnyH_take (i := 8) (oi := ?oi8) (v := ?v8) ?hi8 (by kernel_rfl) (by kernel_rfl) (by kernel_rfl) ?hQ8 ?hy8 HS ?rest8
  case hi8 => simp only [List.getElem?_toArray, List.getElem?_cons_succ, List.getElem?_cons_zero]; exact rfl
  case hQ8 => exact fun _ _ _ h => h
  case hy8 =>
    refine Or.inl ⟨by rfl, ?_⟩
    intro wS hSw
    go_simp
    try with_reducible rfl
  try simp only [Act.put, List.setIfInBounds_toArray, List.set_cons_zero, List.set_cons_succ]
  refine wpAnyH_take (i := 9) (oi := ?oi9) (v := ?v9) ?hi9 (by kernel_rfl) (by kernel_rfl) (by kernel_rfl) ?hQ9 ?hy9 HS ?rest9
  case hi9 => simp only [List.getElem?_toArray, List.getElem?_cons_succ, List.getElem?_cons_zero]; exact rfl
  case hQ9 => exact fun _ _ _ h => h
  case hy9 =>
    refine Or.inl ⟨by rfl, ?_⟩
    intro wS hSw
    go_simp
    try with_reducible rfl
  try simp only [Act.put, List.setIfInBounds_toArray, List.set_cons_zero, List.set_cons_succ]
  refine wpAnyH_take (i := 10) (oi := ?oi10) (v := ?v10) ?hi10 (by kernel_rfl) (by kernel_rfl) (by kernel_rfl) ?hQ10 ?hy10 HS ?rest10
  case hi10 => simp only [List.getElem?_toArray, List.getElem?_cons_succ, List.getElem?_cons_zero]; exact rfl
  case hQ10 => exact fun _ _ _ h => h
  case hy10 =>
    refine Or.inl ⟨by rfl, ?_⟩
    intro wS hSw
    refine Eq.trans (exec_build 210 #[(0, .tmp 38), (1, .tmp 39), (2, .tmp 40)] ?_ #[(0, (.agg #[.int .i64 (k).t, .int .i64 (k).c, .int .i64 (k).e])), (1, .string (str b)), (2, .string (str p))] ?_ _ (built_en k (str b) (str p))) ?_
    · rfl
    · simp only [List.map_toArray, List.map_cons, List.map_nil]; rfl
    · with_reducible rfl
  try simp only [Act.put, List.setIfInBounds_toArray, List.set_cons_zero, List.set_cons_succ]
  refine wpAnyH_ready (rs := [1, 5, 11]) (by kernel_rfl) (by simp) ?_
  refine (AllReadyH.cons (o := ?oz1) ?hoz1 (fun K hK => ?stepz1) (AllReadyH.cons (o := ?oz5) ?hoz5 (fun K hK => ?stepz5) (AllReadyH.cons (o := ?oz11) ?hoz11 (fun K hK => ?stepz11) AllReadyH.nil)))
  case hoz1 => simp only [List.getElem?_toArray, List.getElem?_cons_succ, List.getElem?_cons_zero]; exact rfl
  case hoz5 => simp only [List.getElem?_toArray, List.getElem?_cons_succ, List.getElem?_cons_zero]; exact rfl
  case hoz11 => simp only [List.getElem?_toArray, List.getElem?_cons_succ, List.getElem?_cons_zero]; exact rfl
  case stepz1 =>
    rw [if_pos (by rfl)]
    refine wp_buildSlice0 37 210 rfl Tryz.underlying37 Tryz.isInfoEn ?_
    have HB1 : Hid (Below w2.heap.size w2 (w2.drew.alloc (.cells #[] 210))) := hid (HBs.out.alloc HBs.out.size _)
    have HR1 : Hid ((w2.drew.alloc (.cells #[] 210)).ownsRow w2.heap.size 210 5 (.slice (some ⟨w2.drew.heap.size, 0, none⟩) 0 0) 0 []) := hid (own_empty _ _ _ _ HBs.out.size)
    generalize hr1 : w2.drew.heap.size = r1 at *
    clear hr1
    generalize hw1 : w2.drew.alloc (.cells #[] 210) = wx1 at *
    clear hw1
    refine hK.out _ _ (HB1.out.block w.heap.size HKW.out) (fun HS => ?_)
    clear hK K
    try simp only [Act.put, List.setIfInBounds_toArray, List.set_cons_zero, List.set_cons_succ]
    refine wpAnyH_ready (rs := [5, 11]) (by kernel_rfl) (by simp) ?_
    refine (AllReadyH.cons (o := ?ozb5) ?hozb5 (fun K hK => ?stepzb5) (AllReadyH.cons (o := ?ozb11) ?hozb11 (fun K hK => ?stepzb11) AllReadyH.nil))
    case hozb5 => simp only [List.getElem?_toArray, List.getElem?_cons_succ, List.getElem?_cons_zero]; exact rfl
    case hozb11 => simp only [List.getElem?_toArray, List.getElem?_cons_succ, List.getElem?_cons_zero]; exact rfl
    case stepzb5 =>
      rw [if_pos (by rfl)]
      refine wp_load_slice 37 (.tmp 35) rfl 210 Tryz.underlying37 g 0 rfl _ ((World.cell?_of_block (HB1.out.block g HGV.out)).trans yd) ?_
      refine hK.out _ _ (HB1.out.block w.heap.size HKW.out) (fun HS => ?_)
      clear hK K
      try simp only [Act.put, List.setIfInBounds_toArray, List.set_cons_zero, List.set_cons_succ]
      refine wpAnyH_ready (rs := [6, 11]) (by kernel_rfl) (by simp) ?_
      refine (AllReadyH.cons (o := ?ozbf6) ?hozbf6 (fun K hK => ?stepzbf6) (AllReadyH.cons (o := ?ozbf11) ?hozbf11 (fun K hK => ?stepzbf11) AllReadyH.nil))
      case hozbf6 => simp only [List.getElem?_toArray, List.getElem?_cons_succ, List.getElem?_cons_zero]; exact rfl
      case hozbf11 => simp only [List.getElem?_toArray, List.getElem?_cons_succ, List.getElem?_cons_zero]; exact rfl
      case stepzbf6 =>
        rw [if_pos (by rfl)]
        obtain ⟨A2, c2, wx2, hrun2, hgr2⟩ := run_append_L (P := Tryz.prog) wx1 37 37 210 _ 5 56 Tryz.underlying37 Tryz.infoEn rfl (by decide) w2.heap.size (some ⟨r1, 0, none⟩) 0 0 [] HR1.out A s.L.length c (recs s.L) (recs_len _) (fun h0 => by obtain ⟨lb, hA, hlt, hrr⟩ := own_range HV2.out.row h0; exact ⟨lb, 0, hA, rangeAt_keep hrr (HB1.out.block lb hlt)⟩) (recs_cell _) (by have := HLL.out; omega) (by have := HLL.out; unfold maxLen; omega) HB1.out.size
        rw [Nat.zero_add, List.nil_append] at hgr2
        rw [Nat.zero_add] at hrun2
        refine wp_append_run 37 _ _ rfl _ _ _ rfl rfl hrun2 ?_
        have HR2 : Hid (wx2.ownsRow w2.heap.size 210 5 (.slice A2 s.L.length c2) s.L.length (recs s.L)) := hid hgr2.1
        have HB2 : Hid (Below w2.heap.size w2 wx2) := hid (HB1.out.grown hgr2.2.2.1 HB1.out.size (fun d hd => by injection hd with hd; have := own_ge HR1.out r1 rfl; have hd : r1 = d := hd; omega))
        clear hrun2 hgr2
        refine hK.out _ _ (HB2.out.block w.heap.size HKW.out) (fun HS => ?_)
        clear hK K
        try simp only [Act.put, List.setIfInBounds_toArray, List.set_cons_zero, List.set_cons_succ]
        refine wpAnyH_ready (rs := [11]) (by kernel_rfl) (by simp) ?_
        refine AllReadyH.cons (o := ?ozbfg11) ?hozbfg11 (fun K hK => ?stepzbfg11) AllReadyH.nil
        case hozbfg11 => simp only [List.getElem?_toArray, List.getElem?_cons_succ, List.getElem?_cons_zero]; exact rfl
        rw [if_pos (by rfl)]
        obtain ⟨ie, hie, hz0, hz1, hz2⟩ := info_parts Tryz.infoEn
        refine wp_buildSlice 37 210 1 _ rfl #[.int .i64 k.t, .int .i64 k.c, .int .i64 k.e, .string (str b), .string (str p)] ie _ Tryz.underlying37 hie hz0 (by rw [hz1]; decide) (by rw [hz1]; decide) (by rw [hz1]; simp only [List.map_toArray, List.map_cons, List.map_nil]; exact filled_en k (str b) (str p)) ?_
        clear hie hz0 hz1 hz2
        have HB3 : Hid (Below w2.heap.size w2 (wx2.alloc (.cells #[.int .i64 k.t, .int .i64 k.c, .int .i64 k.e, .string (str b), .string (str p)] 210))) := hid (HB2.out.alloc HB2.out.size _)
        have HQ3 : Hid (Blk (wx2.alloc (.cells #[.int .i64 k.t, .int .i64 k.c, .int .i64 k.e, .string (str b), .string (str p)] 210)) wx2.heap.size 210 #[.int .i64 k.t, .int .i64 k.c, .int .i64 k.e, .string (str b), .string (str p)]) := hid (Blk.new wx2 210 #[.int .i64 k.t, .int .i64 k.c, .int .i64 k.e, .string (str b), .string (str p)])
        have HR3 : Hid ((wx2.alloc (.cells #[.int .i64 k.t, .int .i64 k.c, .int .i64 k.e, .string (str b), .string (str p)] 210)).ownsRow w2.heap.size 210 5 (.slice A2 s.L.length c2) s.L.length (recs s.L)) := hid (own_keep HR2.out fun d hd => ((Below.refl _ _).alloc (Nat.le_refl _) _).block d (own_lt HR2.out d hd))
        have HD3 : Hid (∀ d, A2.map (·.block) = some d → d ≠ wx2.heap.size) := hid (fun d hd => by have := own_lt HR2.out d hd; omega)
        generalize hq3 : wx2.heap.size = q3 at *
        clear hq3
        generalize hw3 : wx2.alloc (.cells #[.int .i64 k.t, .int .i64 k.c, .int .i64 k.e, .string (str b), .string (str p)] 210) = wx3 at *
        clear hw3
        refine hK.out _ _ (HB3.out.block w.heap.size HKW.out) (fun HS => ?_)
        clear hK K
        try simp only [Act.put, List.setIfInBounds_toArray, List.set_cons_zero, List.set_cons_succ]
        refine wpAnyH_ready (rs := [12]) (by kernel_rfl) (by simp) ?_
        refine AllReadyH.cons (o := ?ozbfgl12) ?hozbfgl12 (fun K hK => ?stepzbfgl12) AllReadyH.nil
        case hozbfgl12 => simp only [List.getElem?_toArray, List.getElem?_cons_succ, List.getElem?_cons_zero]; exact rfl
        rw [if_pos (by rfl)]
        obtain ⟨A4, c4, w5, hrun4, hgr4⟩ := run_append_L (P := Tryz.prog) wx3 37 37 210 _ 5 56 Tryz.underlying37 Tryz.infoEn rfl (by decide) w2.heap.size A2 s.L.length c2 (recs s.L) HR3.out (some ⟨q3, 0, none⟩) 1 1 (rec5 (⟨k, b, p⟩ : En)) rfl (fun _ => ⟨q3, 0, rfl, fun j v hv => by rw [HQ3.out.cell, Nat.zero_add, List.getElem?_toArray]; exact hv⟩) (rec5_cell _) (by have := HLL.out; omega) (by have := HLL.out; unfold maxLen; omega) HB3.out.size
        have HB5 : Hid (Below w2.heap.size w2 w5) := hid (HB3.out.grown hgr4.2.2.1 HB3.out.size (fun d hd => own_ge HR3.out d hd))
        have HL5 := hid (RVAt.sealed HV2.out (⟨k, b, p⟩ : En) HB5.out hgr4.1)
        rw [HNN.out] at HL5 hrun4
        refine wp_append_run 37 _ _ rfl _ _ _ rfl rfl hrun4 ?_
        have eg5 := HB5.out.block g HGV.out
        have f5 := (HV2.out.blk.keep eg5).frozen 0
        have u0 := (HV2.out.blk.keep eg5).cell 0
        simp only [List.getElem?_toArray, List.getElem?_cons_zero] at u0
        have HV0 : Hid ((w5.setCell ⟨g, 0, none⟩ (.slice A4 NN c4)).cell? ⟨g, 0, none⟩ = some (.slice A4 NN c4)) := hid (by simpa using ((HV2.out.blk.keep eg5).store 0 (.slice A4 NN c4)).cell 0)
        clear hrun4 hgr4 eg5
        refine hK.out _ _ (HB5.out.block w.heap.size HKW.out) (fun HS => ?_)
        clear hK K
        try simp only [Act.put, List.setIfInBounds_toArray, List.set_cons_zero, List.set_cons_succ]
        refine wpAnyH_take (i := 13) (oi := ?oizbfgl13) (v := ?vzbfgl13) ?hizbfgl13 (by kernel_rfl) (by kernel_rfl) (by kernel_rfl) ?hQzbfgl13 ?hyzbfgl13 HS ?restzbfgl13
        case hizbfgl13 => simp only [List.getElem?_toArray, List.getElem?_cons_succ, List.getElem?_cons_zero]; exact rfl
        case hQzbfgl13 => exact fun _ _ _ h => h
        case hyzbfgl13 =>
          refine Or.inl ⟨by rfl, ?_⟩
          intro wS hSw
          go_simp
          try with_reducible rfl
        try simp only [Act.put, List.setIfInBounds_toArray, List.set_cons_zero, List.set_cons_succ]
        refine wpAnyH_take (i := 14) (oi := ?oizbfgl14) (v := ?vzbfgl14) ?hizbfgl14 (by kernel_rfl) (by kernel_rfl) (by kernel_rfl) ?hQzbfgl14 ?hyzbfgl14 HS ?restzbfgl14
        case hizbfgl14 => simp only [List.getElem?_toArray, List.getElem?_cons_succ, List.getElem?_cons_zero]; exact rfl
        case hQzbfgl14 => exact fun _ _ _ h => h
        case hyzbfgl14 =>
          refine Or.inl ⟨by rfl, ?_⟩
          intro wS hSw
          go_simp
          try with_reducible rfl
        try simp only [Act.put, List.setIfInBounds_toArray, List.set_cons_zero, List.set_cons_succ]
        refine wpAnyH_ready (rs := [15]) (by kernel_rfl) (by simp) ?_
        refine AllReadyH.cons (o := ?ozbfgl15) ?hozbfgl15 (fun K hK => ?stepzbfgl15) AllReadyH.nil
        case hozbfgl15 => simp only [List.getElem?_toArray, List.getElem?_cons_succ, List.getElem?_cons_zero]; exact rfl
        go_simp
        refine hK.out _ _ ((Below.heap_setCell w5 ⟨g, 0, none⟩ _ w.heap.size (fun e => by have e' : w.heap.size = g := e; have := HGW.out; omega)).trans (HB5.out.block w.heap.size HKW.out)) (fun HS => ?_)
        clear hK K
        try simp only [Act.put]
        refine wpAnyH_done (by kernel_rfl) ?_ _
        clear HS u0 f5
        have v0 := HV0.out
        go_wp2
        go_ret2
        exact ⟨rfl, RVLeft.after HBW.out HL5.out⟩
      case stepzbf11 =>
        rw [if_pos (by rfl)]
        obtain ⟨ie, hie, hz0, hz1, hz2⟩ := info_parts Tryz.infoEn
        refine wp_buildSlice 37 210 1 _ rfl #[.int .i64 k.t, .int .i64 k.c, .int .i64 k.e, .string (str b), .string (str p)] ie _ Tryz.underlying37 hie hz0 (by rw [hz1]; decide) (by rw [hz1]; decide) (by rw [hz1]; simp only [List.map_toArray, List.map_cons, List.map_nil]; exact filled_en k (str b) (str p)) ?_
        clear hie hz0 hz1 hz2
        have HB5 : Hid (Below w2.heap.size w2 (wx1.alloc (.cells #[.int .i64 k.t, .int .i64 k.c, .int .i64 k.e, .string (str b), .string (str p)] 210))) := hid (HB1.out.alloc HB1.out.size _)
        have HQ5 : Hid (Blk (wx1.alloc (.cells #[.int .i64 k.t, .int .i64 k.c, .int .i64 k.e, .string (str b), .string (str p)] 210)) wx1.heap.size 210 #[.int .i64 k.t, .int .i64 k.c, .int .i64 k.e, .string (str b), .string (str p)]) := hid (Blk.new wx1 210 #[.int .i64 k.t, .int .i64 k.c, .int .i64 k.e, .string (str b), .string (str p)])
        have HR5 : Hid ((wx1.alloc (.cells #[.int .i64 k.t, .int .i64 k.c, .int .i64 k.e, .string (str b), .string (str p)] 210)).ownsRow w2.heap.size 210 5 (.slice (some ⟨r1, 0, none⟩) 0 0) 0 []) := hid (own_keep HR1.out fun d hd => ((Below.refl _ _).alloc (Nat.le_refl _) _).block d (own_lt HR1.out d hd))
        have HD5 : Hid (r1 ≠ wx1.heap.size) := hid (by have := own_lt HR1.out r1 rfl; omega)
        generalize hq5 : wx1.heap.size = q5 at *
        clear hq5
        generalize hw5 : wx1.alloc (.cells #[.int .i64 k.t, .int .i64 k.c, .int .i64 k.e, .string (str b), .string (str p)] 210) = wx5 at *
        clear hw5
        refine hK.out _ _ (HB5.out.block w.heap.size HKW.out) (fun HS => ?_)
        clear hK K
        try simp only [Act.put, List.setIfInBounds_toArray, List.set_cons_zero, List.set_cons_succ]
        refine wpAnyH_ready (rs := [6]) (by kernel_rfl) (by simp) ?_
        refine AllReadyH.cons (o := ?ozbfl6) ?hozbfl6 (fun K hK => ?stepzbfl6) AllReadyH.nil
        case hozbfl6 => simp only [List.getElem?_toArray, List.getElem?_cons_succ, List.getElem?_cons_zero]; exact rfl
        rw [if_pos (by rfl)]
        obtain ⟨A6, c6, wx6, hrun6, hgr6⟩ := run_append_L (P := Tryz.prog) wx5 37 37 210 _ 5 56 Tryz.underlying37 Tryz.infoEn rfl (by decide) w2.heap.size (some ⟨r1, 0, none⟩) 0 0 [] HR5.out A s.L.length c (recs s.L) (recs_len _) (fun h0 => by obtain ⟨lb, hA, hlt, hrr⟩ := own_range HV2.out.row h0; exact ⟨lb, 0, hA, rangeAt_keep hrr (HB5.out.block lb hlt)⟩) (recs_cell _) (by have := HLL.out; omega) (by have := HLL.out; unfold maxLen; omega) HB5.out.size
        rw [Nat.zero_add, List.nil_append] at hgr6
        rw [Nat.zero_add] at hrun6
        refine wp_append_run 37 _ _ rfl _ _ _ rfl rfl hrun6 ?_
        have HR6 : Hid (wx6.ownsRow w2.heap.size 210 5 (.slice A6 s.L.length c6) s.L.length (recs s.L)) := hid hgr6.1
        have HB6 : Hid (Below w2.heap.size w2 wx6) := hid (HB5.out.grown hgr6.2.2.1 HB5.out.size (fun d hd => by injection hd with hd; have := own_ge HR5.out r1 rfl; have hd : r1 = d := hd; omega))
        have HQ6 : Hid (Blk wx6 q5 210 #[.int .i64 k.t, .int .i64 k.c, .int .i64 k.e, .string (str b), .string (str p)]) := hid (HQ5.out.keep (hgr6.2.2.1.block _ HQ5.out.lt (fun e => by injection e with e; exact HD5.out e.symm)))
        have HD6 : Hid (∀ d, A6.map (·.block) = some d → d ≠ q5) := hid (fun d hd => by
          have := HQ5.out.lt
          rcases hgr6.2.2.2 d hd with e | e
          · injection e with e; exact fun e2 => HD5.out (e.trans e2)
          · omega)
        clear hrun6 hgr6
        refine hK.out _ _ (HB6.out.block w.heap.size HKW.out) (fun HS => ?_)
        clear hK K
        try simp only [Act.put, List.setIfInBounds_toArray, List.set_cons_zero, List.set_cons_succ]
        refine wpAnyH_ready (rs := [12]) (by kernel_rfl) (by simp) ?_
        refine AllReadyH.cons (o := ?ozbflg12) ?hozbflg12 (fun K hK => ?stepzbflg12) AllReadyH.nil
        case hozbflg12 => simp only [List.getElem?_toArray, List.getElem?_cons_succ, List.getElem?_cons_zero]; exact rfl
        rw [if_pos (by rfl)]
        obtain ⟨A7, c7, w5, hrun7, hgr7⟩ := run_append_L (P := Tryz.prog) wx6 37 37 210 _ 5 56 Tryz.underlying37 Tryz.infoEn rfl (by decide) w2.heap.size A6 s.L.length c6 (recs s.L) HR6.out (some ⟨q5, 0, none⟩) 1 1 (rec5 (⟨k, b, p⟩ : En)) rfl (fun _ => ⟨q5, 0, rfl, fun j v hv => by rw [HQ6.out.cell, Nat.zero_add, List.getElem?_toArray]; exact hv⟩) (rec5_cell _) (by have := HLL.out; omega) (by have := HLL.out; unfold maxLen; omega) HB6.out.size
        have HB5 : Hid (Below w2.heap.size w2 w5) := hid (HB6.out.grown hgr7.2.2.1 HB6.out.size (fun d hd => own_ge HR6.out d hd))
        have HL5 := hid (RVAt.sealed HV2.out (⟨k, b, p⟩ : En) HB5.out hgr7.1)
        rw [HNN.out] at HL5 hrun7
        refine wp_append_run 37 _ _ rfl _ _ _ rfl rfl hrun7 ?_
        have eg5 := HB5.out.block g HGV.out
        have f5 := (HV2.out.blk.keep eg5).frozen 0
        have u0 := (HV2.out.blk.keep eg5).cell 0
        simp only [List.getElem?_toArray, List.getElem?_cons_zero] at u0
        have HV0 : Hid ((w5.setCell ⟨g, 0, none⟩ (.slice A7 NN c7)).cell? ⟨g, 0, none⟩ = some (.slice A7 NN c7)) := hid (by simpa using ((HV2.out.blk.keep eg5).store 0 (.slice A7 NN c7)).cell 0)
        clear hrun7 hgr7 eg5
        refine hK.out _ _ (HB5.out.block w.heap.size HKW.out) (fun HS => ?_)
        clear hK K
        try simp only [Act.put, List.setIfInBounds_toArray, List.set_cons_zero, List.set_cons_succ]
        refine wpAnyH_take (i := 13) (oi := ?oizbflg13) (v := ?vzbflg13) ?hizbflg13 (by kernel_rfl) (by kernel_rfl) (by kernel_rfl) ?hQzbflg13 ?hyzbflg13 HS ?restzbflg13
        case hizbflg13 => simp only [List.getElem?_toArray, List.getElem?_cons_succ, List.getElem?_cons_zero]; exact rfl
        case hQzbflg13 => exact fun _ _ _ h => h
        case hyzbflg13 =>
          refine Or.inl ⟨by rfl, ?_⟩
          intro wS hSw
          go_simp
          try with_reducible rfl
        try simp only [Act.put, List.setIfInBounds_toArray, List.set_cons_zero, List.set_cons_succ]
        refine wpAnyH_take (i := 14) (oi := ?oizbflg14) (v := ?vzbflg14) ?hizbflg14 (by kernel_rfl) (by kernel_rfl) (by kernel_rfl) ?hQzbflg14 ?hyzbflg14 HS ?restzbflg14
        case hizbflg14 => simp only [List.getElem?_toArray, List.getElem?_cons_succ, List.getElem?_cons_zero]; exact rfl
        case hQzbflg14 => exact fun _ _ _ h => h
        case hyzbflg14 =>
          refine Or.inl ⟨by rfl, ?_⟩
          intro wS hSw
          go_simp
          try with_reducible rfl
        try simp only [Act.put, List.setIfInBounds_toArray, List.set_cons_zero, List.set_cons_succ]
        refine wpAnyH_ready (rs := [15]) (by kernel_rfl) (by simp) ?_
        refine AllReadyH.cons (o := ?ozbflg15) ?hozbflg15 (fun K hK => ?stepzbflg15) AllReadyH.nil
        case hozbflg15 => simp only [List.getElem?_toArray, List.getElem?_cons_succ, List.getElem?_cons_zero]; exact rfl
        go_simp
        refine hK.out _ _ ((Below.heap_setCell w5 ⟨g, 0, none⟩ _ w.heap.size (fun e => by have e' : w.heap.size = g := e; have := HGW.out; omega)).trans (HB5.out.block w.heap.size HKW.out)) (fun HS => ?_)
        clear hK K
        try simp only [Act.put]
        refine wpAnyH_done (by kernel_rfl) ?_ _
        clear HS u0 f5
        have v0 := HV0.out
        go_wp2
        go_ret2
        exact ⟨rfl, RVLeft.after HBW.out HL5.out⟩
    case stepzb11 =>
      rw [if_pos (by rfl)]
      obtain ⟨ie, hie, hz0, hz1, hz2⟩ := info_parts Tryz.infoEn
      refine wp_buildSlice 37 210 1 _ rfl #[.int .i64 k.t, .int .i64 k.c, .int .i64 k.e, .string (str b), .string (str p)] ie _ Tryz.underlying37 hie hz0 (by rw [hz1]; decide) (by rw [hz1]; decide) (by rw [hz1]; simp only [List.map_toArray, List.map_cons, List.map_nil]; exact filled_en k (str b) (str p)) ?_
      clear hie hz0 hz1 hz2
      have HB8 : Hid (Below w2.heap.size w2 (wx1.alloc (.cells #[.int .i64 k.t, .int .i64 k.c, .int .i64 k.e, .string (str b), .string (str p)] 210))) := hid (HB1.out.alloc HB1.out.size _)
      have HQ8 : Hid (Blk (wx1.alloc (.cells #[.int .i64 k.t, .int .i64 k.c, .int .i64 k.e, .string (str b), .string (str p)] 210)) wx1.heap.size 210 #[.int .i64 k.t, .int .i64 k.c, .int .i64 k.e, .string (str b), .string (str p)]) := hid (Blk.new wx1 210 #[.int .i64 k.t, .int .i64 k.c, .int .i64 k.e, .string (str b), .string (str p)])
      have HR8 : Hid ((wx1.alloc (.cells #[.int .i64 k.t, .int .i64 k.c, .int .i64 k.e, .string (str b), .string (str p)] 210)).ownsRow w2.heap.size 210 5 (.slice (some ⟨r1, 0, none⟩) 0 0) 0 []) := hid (own_keep HR1.out fun d hd => ((Below.refl _ _).alloc (Nat.le_refl _) _).block d (own_lt HR1.out d hd))
      have HD8 : Hid (r1 ≠ wx1.heap.size) := hid (by have := own_lt HR1.out r1 rfl; omega)
      generalize hq8 : wx1.heap.size = q8 at *
      clear hq8
      generalize hw8 : wx1.alloc (.cells #[.int .i64 k.t, .int .i64 k.c, .int .i64 k.e, .string (str b), .string (str p)] 210) = wx8 at *
      clear hw8
      refine hK.out _ _ (HB8.out.block w.heap.size HKW.out) (fun HS => ?_)
      clear hK K
      try simp only [Act.put, List.setIfInBounds_toArray, List.set_cons_zero, List.set_cons_succ]
      refine wpAnyH_ready (rs := [5]) (by kernel_rfl) (by simp) ?_
      refine AllReadyH.cons (o := ?ozbl5) ?hozbl5 (fun K hK => ?stepzbl5) AllReadyH.nil
      case hozbl5 => simp only [List.getElem?_toArray, List.getElem?_cons_succ, List.getElem?_cons_zero]; exact rfl
      rw [if_pos (by rfl)]
      refine wp_load_slice 37 (.tmp 35) rfl 210 Tryz.underlying37 g 0 rfl _ ((World.cell?_of_block (HB8.out.block g HGV.out)).trans yd) ?_
      refine hK.out _ _ (HB8.out.block w.heap.size HKW.out) (fun HS => ?_)
      clear hK K
      try simp only [Act.put, List.setIfInBounds_toArray, List.set_cons_zero, List.set_cons_succ]
      refine wpAnyH_ready (rs := [6]) (by kernel_rfl) (by simp) ?_
      refine AllReadyH.cons (o := ?ozblf6) ?hozblf6 (fun K hK => ?stepzblf6) AllReadyH.nil
      case hozblf6 => simp only [List.getElem?_toArray, List.getElem?_cons_succ, List.getElem?_cons_zero]; exact rfl
      rw [if_pos (by rfl)]
      obtain ⟨A9, c9, wx9, hrun9, hgr9⟩ := run_append_L (P := Tryz.prog) wx8 37 37 210 _ 5 56 Tryz.underlying37 Tryz.infoEn rfl (by decide) w2.heap.size (some ⟨r1, 0, none⟩) 0 0 [] HR8.out A s.L.length c (recs s.L) (recs_len _) (fun h0 => by obtain ⟨lb, hA, hlt, hrr⟩ := own_range HV2.out.row h0; exact ⟨lb, 0, hA, rangeAt_keep hrr (HB8.out.block lb hlt)⟩) (recs_cell _) (by have := HLL.out; omega) (by have := HLL.out; unfold maxLen; omega) HB8.out.size
      rw [Nat.zero_add, List.nil_append] at hgr9
      rw [Nat.zero_add] at hrun9
      refine wp_append_run 37 _ _ rfl _ _ _ rfl rfl hrun9 ?_
      have HR9 : Hid (wx9.ownsRow w2.heap.size 210 5 (.slice A9 s.L.length c9) s.L.length (recs s.L)) := hid hgr9.1
      have HB9 : Hid (Below w2.heap.size w2 wx9) := hid (HB8.out.grown hgr9.2.2.1 HB8.out.size (fun d hd => by injection hd with hd; have := own_ge HR8.out r1 rfl; have hd : r1 = d := hd; omega))
      have HQ9 : Hid (Blk wx9 q8 210 #[.int .i64 k.t, .int .i64 k.c, .int .i64 k.e, .string (str b), .string (str p)]) := hid (HQ8.out.keep (hgr9.2.2.1.block _ HQ8.out.lt (fun e => by injection e with e; exact HD8.out e.symm)))
      have HD9 : Hid (∀ d, A9.map (·.block) = some d → d ≠ q8) := hid (fun d hd => by
        have := HQ8.out.lt
        rcases hgr9.2.2.2 d hd with e | e
        · injection e with e; exact fun e2 => HD8.out (e.trans e2)
        · omega)
      clear hrun9 hgr9
      refine hK.out _ _ (HB9.out.block w.heap.size HKW.out) (fun HS => ?_)
      clear hK K
      try simp only [Act.put, List.setIfInBounds_toArray, List.set_cons_zero, List.set_cons_succ]
      refine wpAnyH_ready (rs := [12]) (by kernel_rfl) (by simp) ?_
      refine AllReadyH.cons (o := ?ozblfg12) ?hozblfg12 (fun K hK => ?stepzblfg12) AllReadyH.nil
      case hozblfg12 => simp only [List.getElem?_toArray, List.getElem?_cons_succ, List.getElem?_cons_zero]; exact rfl
      rw [if_pos (by rfl)]
      obtain ⟨A10, c10, w5, hrun10, hgr10⟩ := run_append_L (P := Tryz.prog) wx9 37 37 210 _ 5 56 Tryz.underlying37 Tryz.infoEn rfl (by decide) w2.heap.size A9 s.L.length c9 (recs s.L) HR9.out (some ⟨q8, 0, none⟩) 1 1 (rec5 (⟨k, b, p⟩ : En)) rfl (fun _ => ⟨q8, 0, rfl, fun j v hv => by rw [HQ9.out.cell, Nat.zero_add, List.getElem?_toArray]; exact hv⟩) (rec5_cell _) (by have := HLL.out; omega) (by have := HLL.out; unfold maxLen; omega) HB9.out.size
      have HB5 : Hid (Below w2.heap.size w2 w5) := hid (HB9.out.grown hgr10.2.2.1 HB9.out.size (fun d hd => own_ge HR9.out d hd))
      have HL5 := hid (RVAt.sealed HV2.out (⟨k, b, p⟩ : En) HB5.out hgr10.1)
      rw [HNN.out] at HL5 hrun10
      refine wp_append_run 37 _ _ rfl _ _ _ rfl rfl hrun10 ?_
      have eg5 := HB5.out.block g HGV.out
      have f5 := (HV2.out.blk.keep eg5).frozen 0
      have u0 := (HV2.out.blk.keep eg5).cell 0
      simp only [List.getElem?_toArray, List.getElem?_cons_zero] at u0
      have HV0 : Hid ((w5.setCell ⟨g, 0, none⟩ (.slice A10 NN c10)).cell? ⟨g, 0, none⟩ = some (.slice A10 NN c10)) := hid (by simpa using ((HV2.out.blk.keep eg5).store 0 (.slice A10 NN c10)).cell 0)
      clear hrun10 hgr10 eg5
      refine hK.out _ _ (HB5.out.block w.heap.size HKW.out) (fun HS => ?_)
      clear hK K
      try simp only [Act.put, List.setIfInBounds_toArray, List.set_cons_zero, List.set_cons_succ]
      refine wpAnyH_take (i := 13) (oi := ?oizblfg13) (v := ?vzblfg13) ?hizblfg13 (by kernel_rfl) (by kernel_rfl) (by kernel_rfl) ?hQzblfg13 ?hyzblfg13 HS ?restzblfg13
      case hizblfg13 => simp only [List.getElem?_toArray, List.getElem?_cons_succ, List.getElem?_cons_zero]; exact rfl
      case hQzblfg13 => exact fun _ _ _ h => h
      case hyzblfg13 =>
        refine Or.inl ⟨by rfl, ?_⟩
        intro wS hSw
        go_simp
        try with_reducible rfl
      try simp only [Act.put, List.setIfInBounds_toArray, List.set_cons_zero, List.set_cons_succ]
      refine wpAnyH_take (i := 14) (oi := ?oizblfg14) (v := ?vzblfg14) ?hizblfg14 (by kernel_rfl) (by kernel_rfl) (by kernel_rfl) ?hQzblfg14 ?hyzblfg14 HS ?restzblfg14
      case hizblfg14 => simp only [List.getElem?_toArray, List.getElem?_cons_succ, List.getElem?_cons_zero]; exact rfl
      case hQzblfg14 => exact fun _ _ _ h => h
      case hyzblfg14 =>
        refine Or.inl ⟨by rfl, ?_⟩
        intro wS hSw
        go_simp
        try with_reducible rfl
      try simp only [Act.put, List.setIfInBounds_toArray, List.set_cons_zero, List.set_cons_succ]
      refine wpAnyH_ready (rs := [15]) (by kernel_rfl) (by simp) ?_
      refine AllReadyH.cons (o := ?ozblfg15) ?hozblfg15 (fun K hK => ?stepzblfg15) AllReadyH.nil
      case hozblfg15 => simp only [List.getElem?_toArray, List.getElem?_cons_succ, List.getElem?_cons_zero]; exact rfl
      go_simp
      refine hK.out _ _ ((Below.heap_setCell w5 ⟨g, 0, none⟩ _ w.heap.size (fun e => by have e' : w.heap.size = g := e; have := HGW.out; omega)).trans (HB5.out.block w.heap.size HKW.out)) (fun HS => ?_)
      clear hK K
      try simp only [Act.put]
      refine wpAnyH_done (by kernel_rfl) ?_ _
      clear HS u0 f5
      have v0 := HV0.out
      go_wp2
      go_ret2
      exact ⟨rfl, RVLeft.after HBW.out HL5.out⟩
  case stepz5 =>
    rw [if_pos (by rfl)]
    refine wp_load_slice 37 (.tmp 35) rfl 210 Tryz.underlying37 g 0 rfl _ ((World.cell?_of_block (HBs.out.block g HGV.out)).trans yd) ?_
    refine hK.out _ _ (HBs.out.block w.heap.size HKW.out) (fun HS => ?_)
    clear hK K
    try simp only [Act.put, List.setIfInBounds_toArray, List.set_cons_zero, List.set_cons_succ]
    refine wpAnyH_ready (rs := [1, 11]) (by kernel_rfl) (by simp) ?_
    refine (AllReadyH.cons (o := ?ozf1) ?hozf1 (fun K hK => ?stepzf1) (AllReadyH.cons (o := ?ozf11) ?hozf11 (fun K hK => ?stepzf11) AllReadyH.nil))
    case hozf1 => simp only [List.getElem?_toArray, List.getElem?_cons_succ, List.getElem?_cons_zero]; exact rfl
    case hozf11 => simp only [List.getElem?_toArray, List.getElem?_cons_succ, List.getElem?_cons_zero]; exact rfl
    case stepzf1 =>
      rw [if_pos (by rfl)]
      refine wp_buildSlice0 37 210 rfl Tryz.underlying37 Tryz.isInfoEn ?_
      have HB11 : Hid (Below w2.heap.size w2 (w2.drew.alloc (.cells #[] 210))) := hid (HBs.out.alloc HBs.out.size _)
      have HR11 : Hid ((w2.drew.alloc (.cells #[] 210)).ownsRow w2.heap.size 210 5 (.slice (some ⟨w2.drew.heap.size, 0, none⟩) 0 0) 0 []) := hid (own_empty _ _ _ _ HBs.out.size)
      generalize hr11 : w2.drew.heap.size = r11 at *
      clear hr11
      generalize hw11 : w2.drew.alloc (.cells #[] 210) = wx11 at *
      clear hw11
      refine hK.out _ _ (HB11.out.block w.heap.size HKW.out) (fun HS => ?_)
      clear hK K
      try simp only [Act.put, List.setIfInBounds_toArray, List.set_cons_zero, List.set_cons_succ]
      refine wpAnyH_ready (rs := [6, 11]) (by kernel_rfl) (by simp) ?_
      refine (AllReadyH.cons (o := ?ozfb6) ?hozfb6 (fun K hK => ?stepzfb6) (AllReadyH.cons (o := ?ozfb11) ?hozfb11 (fun K hK => ?stepzfb11) AllReadyH.nil))
      case hozfb6 => simp only [List.getElem?_toArray, List.getElem?_cons_succ, List.getElem?_cons_zero]; exact rfl
      case hozfb11 => simp only [List.getElem?_toArray, List.getElem?_cons_succ, List.getElem?_cons_zero]; exact rfl
      case stepzfb6 =>
        rw [if_pos (by rfl)]
        obtain ⟨A12, c12, wx12, hrun12, hgr12⟩ := run_append_L (P := Tryz.prog) wx11 37 37 210 _ 5 56 Tryz.underlying37 Tryz.infoEn rfl (by decide) w2.heap.size (some ⟨r11, 0, none⟩) 0 0 [] HR11.out A s.L.length c (recs s.L) (recs_len _) (fun h0 => by obtain ⟨lb, hA, hlt, hrr⟩ := own_range HV2.out.row h0; exact ⟨lb, 0, hA, rangeAt_keep hrr (HB11.out.block lb hlt)⟩) (recs_cell _) (by have := HLL.out; omega) (by have := HLL.out; unfold maxLen; omega) HB11.out.size
        rw [Nat.zero_add, List.nil_append] at hgr12
        rw [Nat.zero_add] at hrun12
        refine wp_append_run 37 _ _ rfl _ _ _ rfl rfl hrun12 ?_
        have HR12 : Hid (wx12.ownsRow w2.heap.size 210 5 (.slice A12 s.L.length c12) s.L.length (recs s.L)) := hid hgr12.1
        have HB12 : Hid (Below w2.heap.size w2 wx12) := hid (HB11.out.grown hgr12.2.2.1 HB11.out.size (fun d hd => by injection hd with hd; have := own_ge HR11.out r11 rfl; have hd : r11 = d := hd; omega))
        clear hrun12 hgr12
        refine hK.out _ _ (HB12.out.block w.heap.size HKW.out) (fun HS => ?_)
        clear hK K
        try simp only [Act.put, List.setIfInBounds_toArray, List.set_cons_zero, List.set_cons_succ]
        refine wpAnyH_ready (rs := [11]) (by kernel_rfl) (by simp) ?_
        refine AllReadyH.cons (o := ?ozfbg11) ?hozfbg11 (fun K hK => ?stepzfbg11) AllReadyH.nil
        case hozfbg11 => simp only [List.getElem?_toArray, List.getElem?_cons_succ, List.getElem?_cons_zero]; exact rfl
        rw [if_pos (by rfl)]
        obtain ⟨ie, hie, hz0, hz1, hz2⟩ := info_parts Tryz.infoEn
        refine wp_buildSlice 37 210 1 _ rfl #[.int .i64 k.t, .int .i64 k.c, .int .i64 k.e, .string (str b), .string (str p)] ie _ Tryz.underlying37 hie hz0 (by rw [hz1]; decide) (by rw [hz1]; decide) (by rw [hz1]; simp only [List.map_toArray, List.map_cons, List.map_nil]; exact filled_en k (str b) (str p)) ?_
        clear hie hz0 hz1 hz2
        have HB13 : Hid (Below w2.heap.size w2 (wx12.alloc (.cells #[.int .i64 k.t, .int .i64 k.c, .int .i64 k.e, .string (str b), .string (str p)] 210))) := hid (HB12.out.alloc HB12.out.size _)
        have HQ13 : Hid (Blk (wx12.alloc (.cells #[.int .i64 k.t, .int .i64 k.c, .int .i64 k.e, .string (str b), .string (str p)] 210)) wx12.heap.size 210 #[.int .i64 k.t, .int .i64 k.c, .int .i64 k.e, .string (str b), .string (str p)]) := hid (Blk.new wx12 210 #[.int .i64 k.t, .int .i64 k.c, .int .i64 k.e, .string (str b), .string (str p)])
        have HR13 : Hid ((wx12.alloc (.cells #[.int .i64 k.t, .int .i64 k.c, .int .i64 k.e, .string (str b), .string (str p)] 210)).ownsRow w2.heap.size 210 5 (.slice A12 s.L.length c12) s.L.length (recs s.L)) := hid (own_keep HR12.out fun d hd => ((Below.refl _ _).alloc (Nat.le_refl _) _).block d (own_lt HR12.out d hd))
        have HD13 : Hid (∀ d, A12.map (·.block) = some d → d ≠ wx12.heap.size) := hid (fun d hd => by have := own_lt HR12.out d hd; omega)
        generalize hq13 : wx12.heap.size = q13 at *
        clear hq13
        generalize hw13 : wx12.alloc (.cells #[.int .i64 k.t, .int .i64 k.c, .int .i64 k.e, .string (str b), .string (str p)] 210) = wx13 at *
        clear hw13
        refine hK.out _ _ (HB13.out.block w.heap.size HKW.out) (fun HS => ?_)
        clear hK K
        try simp only [Act.put, List.setIfInBounds_toArray, List.set_cons_zero, List.set_cons_succ]
        refine wpAnyH_ready (rs := [12]) (by kernel_rfl) (by simp) ?_
        refine AllReadyH.cons (o := ?ozfbgl12) ?hozfbgl12 (fun K hK => ?stepzfbgl12) AllReadyH.nil
        case hozfbgl12 => simp only [List.getElem?_toArray, List.getElem?_cons_succ, List.getElem?_cons_zero]; exact rfl
        rw [if_pos (by rfl)]
        obtain ⟨A14, c14, w5, hrun14, hgr14⟩ := run_append_L (P := Tryz.prog) wx13 37 37 210 _ 5 56 Tryz.underlying37 Tryz.infoEn rfl (by decide) w2.heap.size A12 s.L.length c12 (recs s.L) HR13.out (some ⟨q13, 0, none⟩) 1 1 (rec5 (⟨k, b, p⟩ : En)) rfl (fun _ => ⟨q13, 0, rfl, fun j v hv => by rw [HQ13.out.cell, Nat.zero_add, List.getElem?_toArray]; exact hv⟩) (rec5_cell _) (by have := HLL.out; omega) (by have := HLL.out; unfold maxLen; omega) HB13.out.size
        have HB5 : Hid (Below w2.heap.size w2 w5) := hid (HB13.out.grown hgr14.2.2.1 HB13.out.size (fun d hd => own_ge HR13.out d hd))
        have HL5 := hid (RVAt.sealed HV2.out (⟨k, b, p⟩ : En) HB5.out hgr14.1)
        rw [HNN.out] at HL5 hrun14
        refine wp_append_run 37 _ _ rfl _ _ _ rfl rfl hrun14 ?_
        have eg5 := HB5.out.block g HGV.out
        have f5 := (HV2.out.blk.keep eg5).frozen 0
        have u0 := (HV2.out.blk.keep eg5).cell 0
        simp only [List.getElem?_toArray, List.getElem?_cons_zero] at u0
        have HV0 : Hid ((w5.setCell ⟨g, 0, none⟩ (.slice A14 NN c14)).cell? ⟨g, 0, none⟩ = some (.slice A14 NN c14)) := hid (by simpa using ((HV2.out.blk.keep eg5).store 0 (.slice A14 NN c14)).cell 0)
        clear hrun14 hgr14 eg5
        refine hK.out _ _ (HB5.out.block w.heap.size HKW.out) (fun HS => ?_)
        clear hK K
        try simp only [Act.put, List.setIfInBounds_toArray, List.set_cons_zero, List.set_cons_succ]
        refine wpAnyH_take (i := 13) (oi := ?oizfbgl13) (v := ?vzfbgl13) ?hizfbgl13 (by kernel_rfl) (by kernel_rfl) (by kernel_rfl) ?hQzfbgl13 ?hyzfbgl13 HS ?restzfbgl13
        case hizfbgl13 => simp only [List.getElem?_toArray, List.getElem?_cons_succ, List.getElem?_cons_zero]; exact rfl
        case hQzfbgl13 => exact fun _ _ _ h => h
        case hyzfbgl13 =>
          refine Or.inl ⟨by rfl, ?_⟩
          intro wS hSw
          go_simp
          try with_reducible rfl
        try simp only [Act.put, List.setIfInBounds_toArray, List.set_cons_zero, List.set_cons_succ]
        refine wpAnyH_take (i := 14) (oi := ?oizfbgl14) (v := ?vzfbgl14) ?hizfbgl14 (by kernel_rfl) (by kernel_rfl) (by kernel_rfl) ?hQzfbgl14 ?hyzfbgl14 HS ?restzfbgl14
        case hizfbgl14 => simp only [List.getElem?_toArray, List.getElem?_cons_succ, List.getElem?_cons_zero]; exact rfl
        case hQzfbgl14 => exact fun _ _ _ h => h
        case hyzfbgl14 =>
          refine Or.inl ⟨by rfl, ?_⟩
          intro wS hSw
          go_simp
          try with_reducible rfl
        try simp only [Act.put, List.setIfInBounds_toArray, List.set_cons_zero, List.set_cons_succ]
        refine wpAnyH_ready (rs := [15]) (by kernel_rfl) (by simp) ?_
        refine AllReadyH.cons (o := ?ozfbgl15) ?hozfbgl15 (fun K hK => ?stepzfbgl15) AllReadyH.nil
        case hozfbgl15 => simp only [List.getElem?_toArray, List.getElem?_cons_succ, List.getElem?_cons_zero]; exact rfl
        go_simp
        refine hK.out _ _ ((Below.heap_setCell w5 ⟨g, 0, none⟩ _ w.heap.size (fun e => by have e' : w.heap.size = g := e; have := HGW.out; omega)).trans (HB5.out.block w.heap.size HKW.out)) (fun HS => ?_)
        clear hK K
        try simp only [Act.put]
        refine wpAnyH_done (by kernel_rfl) ?_ _
        clear HS u0 f5
        have v0 := HV0.out
        go_wp2
        go_ret2
        exact ⟨rfl, RVLeft.after HBW.out HL5.out⟩
      case stepzfb11 =>
        rw [if_pos (by rfl)]
        obtain ⟨ie, hie, hz0, hz1, hz2⟩ := info_parts Tryz.infoEn
        refine wp_buildSlice 37 210 1 _ rfl #[.int .i64 k.t, .int .i64 k.c, .int .i64 k.e, .string (str b), .string (str p)] ie _ Tryz.underlying37 hie hz0 (by rw [hz1]; decide) (by rw [hz1]; decide) (by rw [hz1]; simp only [List.map_toArray, List.map_cons, List.map_nil]; exact filled_en k (str b) (str p)) ?_
        clear hie hz0 hz1 hz2
        have HB15 : Hid (Below w2.heap.size w2 (wx11.alloc (.cells #[.int .i64 k.t, .int .i64 k.c, .int .i64 k.e, .string (str b), .string (str p)] 210))) := hid (HB11.out.alloc HB11.out.size _)
        have HQ15 : Hid (Blk (wx11.alloc (.cells #[.int .i64 k.t, .int .i64 k.c, .int .i64 k.e, .string (str b), .string (str p)] 210)) wx11.heap.size 210 #[.int .i64 k.t, .int .i64 k.c, .int .i64 k.e, .string (str b), .string (str p)]) := hid (Blk.new wx11 210 #[.int .i64 k.t, .int .i64 k.c, .int .i64 k.e, .string (str b), .string (str p)])
        have HR15 : Hid ((wx11.alloc (.cells #[.int .i64 k.t, .int .i64 k.c, .int .i64 k.e, .string (str b), .string (str p)] 210)).ownsRow w2.heap.size 210 5 (.slice (some ⟨r11, 0, none⟩) 0 0) 0 []) := hid (own_keep HR11.out fun d hd => ((Below.refl _ _).alloc (Nat.le_refl _) _).block d (own_lt HR11.out d hd))
        have HD15 : Hid (r11 ≠ wx11.heap.size) := hid (by have := own_lt HR11.out r11 rfl; omega)
        generalize hq15 : wx11.heap.size = q15 at *
        clear hq15
        generalize hw15 : wx11.alloc (.cells #[.int .i64 k.t, .int .i64 k.c, .int .i64 k.e, .string (str b), .string (str p)] 210) = wx15 at *
        clear hw15
        refine hK.out _ _ (HB15.out.block w.heap.size HKW.out) (fun HS => ?_)
        clear hK K
        try simp only [Act.put, List.setIfInBounds_toArray, List.set_cons_zero, List.set_cons_succ]
        refine wpAnyH_ready (rs := [6]) (by kernel_rfl) (by simp) ?_
        refine AllReadyH.cons (o := ?ozfbl6) ?hozfbl6 (fun K hK => ?stepzfbl6) AllReadyH.nil
        case hozfbl6 => simp only [List.getElem?_toArray, List.getElem?_cons_succ, List.getElem?_cons_zero]; exact rfl
        rw [if_pos (by rfl)]
        obtain ⟨A16, c16, wx16, hrun16, hgr16⟩ := run_append_L (P := Tryz.prog) wx15 37 37 210 _ 5 56 Tryz.underlying37 Tryz.infoEn rfl (by decide) w2.heap.size (some ⟨r11, 0, none⟩) 0 0 [] HR15.out A s.L.length c (recs s.L) (recs_len _) (fun h0 => by obtain ⟨lb, hA, hlt, hrr⟩ := own_range HV2.out.row h0; exact ⟨lb, 0, hA, rangeAt_keep hrr (HB15.out.block lb hlt)⟩) (recs_cell _) (by have := HLL.out; omega) (by have := HLL.out; unfold maxLen; omega) HB15.out.size
        rw [Nat.zero_add, List.nil_append] at hgr16
        rw [Nat.zero_add] at hrun16
        refine wp_append_run 37 _ _ rfl _ _ _ rfl rfl hrun16 ?_
        have HR16 : Hid (wx16.ownsRow w2.heap.size 210 5 (.slice A16 s.L.length c16) s.L.length (recs s.L)) := hid hgr16.1
        have HB16 : Hid (Below w2.heap.size w2 wx16) := hid (HB15.out.grown hgr16.2.2.1 HB15.out.size (fun d hd => by injection hd with hd; have := own_ge HR15.out r11 rfl; have hd : r11 = d := hd; omega))
        have HQ16 : Hid (Blk wx16 q15 210 #[.int .i64 k.t, .int .i64 k.c, .int .i64 k.e, .string (str b), .string (str p)]) := hid (HQ15.out.keep (hgr16.2.2.1.block _ HQ15.out.lt (fun e => by injection e with e; exact HD15.out e.symm)))
        have HD16 : Hid (∀ d, A16.map (·.block) = some d → d ≠ q15) := hid (fun d hd => by
          have := HQ15.out.lt
          rcases hgr16.2.2.2 d hd with e | e
          · injection e with e; exact fun e2 => HD15.out (e.trans e2)
          · omega)
        clear hrun16 hgr16
        refine hK.out _ _ (HB16.out.block w.heap.size HKW.out) (fun HS => ?_)
        clear hK K
        try simp only [Act.put, List.setIfInBounds_toArray, List.set_cons_zero, List.set_cons_succ]
        refine wpAnyH_ready (rs := [12]) (by kernel_rfl) (by simp) ?_
        refine AllReadyH.cons (o := ?ozfblg12) ?hozfblg12 (fun K hK => ?stepzfblg12) AllReadyH.nil
        case hozfblg12 => simp only [List.getElem?_toArray, List.getElem?_cons_succ, List.getElem?_cons_zero]; exact rfl
        rw [if_pos (by rfl)]
        obtain ⟨A17, c17, w5, hrun17, hgr17⟩ := run_append_L (P := Tryz.prog) wx16 37 37 210 _ 5 56 Tryz.underlying37 Tryz.infoEn rfl (by decide) w2.heap.size A16 s.L.length c16 (recs s.L) HR16.out (some ⟨q15, 0, none⟩) 1 1 (rec5 (⟨k, b, p⟩ : En)) rfl (fun _ => ⟨q15, 0, rfl, fun j v hv => by rw [HQ16.out.cell, Nat.zero_add, List.getElem?_toArray]; exact hv⟩) (rec5_cell _) (by have := HLL.out; omega) (by have := HLL.out; unfold maxLen; omega) HB16.out.size
        have HB5 : Hid (Below w2.heap.size w2 w5) := hid (HB16.out.grown hgr17.2.2.1 HB16.out.size (fun d hd => own_ge HR16.out d hd))
        have HL5 := hid (RVAt.sealed HV2.out (⟨k, b, p⟩ : En) HB5.out hgr17.1)
        rw [HNN.out] at HL5 hrun17
        refine wp_append_run 37 _ _ rfl _ _ _ rfl rfl hrun17 ?_
        have eg5 := HB5.out.block g HGV.out
        have f5 := (HV2.out.blk.keep eg5).frozen 0
        have u0 := (HV2.out.blk.keep eg5).cell 0
        simp only [List.getElem?_toArray, List.getElem?_cons_zero] at u0
        have HV0 : Hid ((w5.setCell ⟨g, 0, none⟩ (.slice A17 NN c17)).cell? ⟨g, 0, none⟩ = some (.slice A17 NN c17)) := hid (by simpa using ((HV2.out.blk.keep eg5).store 0 (.slice A17 NN c17)).cell 0)
        clear hrun17 hgr17 eg5
        refine hK.out _ _ (HB5.out.block w.heap.size HKW.out) (fun HS => ?_)
        clear hK K
        try simp only [Act.put, List.setIfInBounds_toArray, List.set_cons_zero, List.set_cons_succ]
        refine wpAnyH_take (i := 13) (oi := ?oizfblg13) (v := ?vzfblg13) ?hizfblg13 (by kernel_rfl) (by kernel_rfl) (by kernel_rfl) ?hQzfblg13 ?hyzfblg13 HS ?restzfblg13
        case hizfblg13 => simp only [List.getElem?_toArray, List.getElem?_cons_succ, List.getElem?_cons_zero]; exact rfl
        case hQzfblg13 => exact fun _ _ _ h => h
        case hyzfblg13 =>
          refine Or.inl ⟨by rfl, ?_⟩
          intro wS hSw
          go_simp
          try with_reducible rfl
        try simp only [Act.put, List.setIfInBounds_toArray, List.set_cons_zero, List.set_cons_succ]
        refine wpAnyH_take (i := 14) (oi := ?oizfblg14) (v := ?vzfblg14) ?hizfblg14 (by kernel_rfl) (by kernel_rfl) (by kernel_rfl) ?hQzfblg14 ?hyzfblg14 HS ?restzfblg14
        case hizfblg14 => simp only [List.getElem?_toArray, List.getElem?_cons_succ, List.getElem?_cons_zero]; exact rfl
        case hQzfblg14 => exact fun _ _ _ h => h
        case hyzfblg14 =>
          refine Or.inl ⟨by rfl, ?_⟩
          intro wS hSw
          go_simp
          try with_reducible rfl
        try simp only [Act.put, List.setIfInBounds_toArray, List.set_cons_zero, List.set_cons_succ]
        refine wpAnyH_ready (rs := [15]) (by kernel_rfl) (by simp) ?_
        refine AllReadyH.cons (o := ?ozfblg15) ?hozfblg15 (fun K hK => ?stepzfblg15) AllReadyH.nil
        case hozfblg15 => simp only [List.getElem?_toArray, List.getElem?_cons_succ, List.getElem?_cons_zero]; exact rfl
        go_simp
        refine hK.out _ _ ((Below.heap_setCell w5 ⟨g, 0, none⟩ _ w.heap.size (fun e => by have e' : w.heap.size = g := e; have := HGW.out; omega)).trans (HB5.out.block w.heap.size HKW.out)) (fun HS => ?_)
        clear hK K
        try simp only [Act.put]
        refine wpAnyH_done (by kernel_rfl) ?_ _
        clear HS u0 f5
        have v0 := HV0.out
        go_wp2
        go_ret2
        exact ⟨rfl, RVLeft.after HBW.out HL5.out⟩
    case stepzf11 =>
      rw [if_pos (by rfl)]
      obtain ⟨ie, hie, hz0, hz1, hz2⟩ := info_parts Tryz.infoEn
      refine wp_buildSlice 37 210 1 _ rfl #[.int .i64 k.t, .int .i64 k.c, .int .i64 k.e, .string (str b), .string (str p)] ie _ Tryz.underlying37 hie hz0 (by rw [hz1]; decide) (by rw [hz1]; decide) (by rw [hz1]; simp only [List.map_toArray, List.map_cons, List.map_nil]; exact filled_en k (str b) (str p)) ?_
      clear hie hz0 hz1 hz2
      have HB18 : Hid (Below w2.heap.size w2 (w2.drew.alloc (.cells #[.int .i64 k.t, .int .i64 k.c, .int .i64 k.e, .string (str b), .string (str p)] 210))) := hid (HBs.out.alloc HBs.out.size _)
      have HQ18 : Hid (Blk (w2.drew.alloc (.cells #[.int .i64 k.t, .int .i64 k.c, .int .i64 k.e, .string (str b), .string (str p)] 210)) w2.drew.heap.size 210 #[.int .i64 k.t, .int .i64 k.c, .int .i64 k.e, .string (str b), .string (str p)]) := hid (Blk.new w2.drew 210 #[.int .i64 k.t, .int .i64 k.c, .int .i64 k.e, .string (str b), .string (str p)])
      generalize hq18 : w2.drew.heap.size = q18 at *
      clear hq18
      generalize hw18 : w2.drew.alloc (.cells #[.int .i64 k.t, .int .i64 k.c, .int .i64 k.e, .string (str b), .string (str p)] 210) = wx18 at *
      clear hw18
      refine hK.out _ _ (HB18.out.block w.heap.size HKW.out) (fun HS => ?_)
      clear hK K
      try simp only [Act.put, List.setIfInBounds_toArray, List.set_cons_zero, List.set_cons_succ]
      refine wpAnyH_ready (rs := [1]) (by kernel_rfl) (by simp) ?_
      refine AllReadyH.cons (o := ?ozfl1) ?hozfl1 (fun K hK => ?stepzfl1) AllReadyH.nil
      case hozfl1 => simp only [List.getElem?_toArray, List.getElem?_cons_succ, List.getElem?_cons_zero]; exact rfl
      rw [if_pos (by rfl)]
      refine wp_buildSlice0 37 210 rfl Tryz.underlying37 Tryz.isInfoEn ?_
      have HB19 : Hid (Below w2.heap.size w2 (wx18.alloc (.cells #[] 210))) := hid (HB18.out.alloc HB18.out.size _)
      have HR19 : Hid ((wx18.alloc (.cells #[] 210)).ownsRow w2.heap.size 210 5 (.slice (some ⟨wx18.heap.size, 0, none⟩) 0 0) 0 []) := hid (own_empty _ _ _ _ HB18.out.size)
      have HQ19 : Hid (Blk (wx18.alloc (.cells #[] 210)) q18 210 #[.int .i64 k.t, .int .i64 k.c, .int .i64 k.e, .string (str b), .string (str p)]) := hid (HQ18.out.keep (((Below.refl _ _).alloc (Nat.le_refl _) _).block _ HQ18.out.lt))
      have HD19 : Hid (wx18.heap.size ≠ q18) := hid (by have := HQ18.out.lt; omega)
      generalize hr19 : wx18.heap.size = r19 at *
      clear hr19
      generalize hw19 : wx18.alloc (.cells #[] 210) = wx19 at *
      clear hw19
      refine hK.out _ _ (HB19.out.block w.heap.size HKW.out) (fun HS => ?_)
      clear hK K
      try simp only [Act.put, List.setIfInBounds_toArray, List.set_cons_zero, List.set_cons_succ]
      refine wpAnyH_ready (rs := [6]) (by kernel_rfl) (by simp) ?_
      refine AllReadyH.cons (o := ?ozflb6) ?hozflb6 (fun K hK => ?stepzflb6) AllReadyH.nil
      case hozflb6 => simp only [List.getElem?_toArray, List.getElem?_cons_succ, List.getElem?_cons_zero]; exact rfl
      rw [if_pos (by rfl)]
      obtain ⟨A20, c20, wx20, hrun20, hgr20⟩ := run_append_L (P := Tryz.prog) wx19 37 37 210 _ 5 56 Tryz.underlying37 Tryz.infoEn rfl (by decide) w2.heap.size (some ⟨r19, 0, none⟩) 0 0 [] HR19.out A s.L.length c (recs s.L) (recs_len _) (fun h0 => by obtain ⟨lb, hA, hlt, hrr⟩ := own_range HV2.out.row h0; exact ⟨lb, 0, hA, rangeAt_keep hrr (HB19.out.block lb hlt)⟩) (recs_cell _) (by have := HLL.out; omega) (by have := HLL.out; unfold maxLen; omega) HB19.out.size
      rw [Nat.zero_add, List.nil_append] at hgr20
      rw [Nat.zero_add] at hrun20
      refine wp_append_run 37 _ _ rfl _ _ _ rfl rfl hrun20 ?_
      have HR20 : Hid (wx20.ownsRow w2.heap.size 210 5 (.slice A20 s.L.length c20) s.L.length (recs s.L)) := hid hgr20.1
      have HB20 : Hid (Below w2.heap.size w2 wx20) := hid (HB19.out.grown hgr20.2.2.1 HB19.out.size (fun d hd => by injection hd with hd; have := own_ge HR19.out r19 rfl; have hd : r19 = d := hd; omega))
      have HQ20 : Hid (Blk wx20 q18 210 #[.int .i64 k.t, .int .i64 k.c, .int .i64 k.e, .string (str b), .string (str p)]) := hid (HQ19.out.keep (hgr20.2.2.1.block _ HQ19.out.lt (fun e => by injection e with e; exact HD19.out e.symm)))
      have HD20 : Hid (∀ d, A20.map (·.block) = some d → d ≠ q18) := hid (fun d hd => by
        have := HQ19.out.lt
        rcases hgr20.2.2.2 d hd with e | e
        · injection e with e; exact fun e2 => HD19.out (e.trans e2)
        · omega)
      clear hrun20 hgr20
      refine hK.out _ _ (HB20.out.block w.heap.size HKW.out) (fun HS => ?_)
      clear hK K
      try simp only [Act.put, List.setIfInBounds_toArray, List.set_cons_zero, List.set_cons_succ]
      refine wpAnyH_ready (rs := [12]) (by kernel_rfl) (by simp) ?_
      refine AllReadyH.cons (o := ?ozflbg12) ?hozflbg12 (fun K hK => ?stepzflbg12) AllReadyH.nil
      case hozflbg12 => simp only [List.getElem?_toArray, List.getElem?_cons_succ, List.getElem?_cons_zero]; exact rfl
      rw [if_pos (by rfl)]
      obtain ⟨A21, c21, w5, hrun21, hgr21⟩ := run_append_L (P := Tryz.prog) wx20 37 37 210 _ 5 56 Tryz.underlying37 Tryz.infoEn rfl (by decide) w2.heap.size A20 s.L.length c20 (recs s.L) HR20.out (some ⟨q18, 0, none⟩) 1 1 (rec5 (⟨k, b, p⟩ : En)) rfl (fun _ => ⟨q18, 0, rfl, fun j v hv => by rw [HQ20.out.cell, Nat.zero_add, List.getElem?_toArray]; exact hv⟩) (rec5_cell _) (by have := HLL.out; omega) (by have := HLL.out; unfold maxLen; omega) HB20.out.size
      have HB5 : Hid (Below w2.heap.size w2 w5) := hid (HB20.out.grown hgr21.2.2.1 HB20.out.size (fun d hd => own_ge HR20.out d hd))
      have HL5 := hid (RVAt.sealed HV2.out (⟨k, b, p⟩ : En) HB5.out hgr21.1)
      rw [HNN.out] at HL5 hrun21
      refine wp_append_run 37 _ _ rfl _ _ _ rfl rfl hrun21 ?_
      have eg5 := HB5.out.block g HGV.out
      have f5 := (HV2.out.blk.keep eg5).frozen 0
      have u0 := (HV2.out.blk.keep eg5).cell 0
      simp only [List.getElem?_toArray, List.getElem?_cons_zero] at u0
      have HV0 : Hid ((w5.setCell ⟨g, 0, none⟩ (.slice A21 NN c21)).cell? ⟨g, 0, none⟩ = some (.slice A21 NN c21)) := hid (by simpa using ((HV2.out.blk.keep eg5).store 0 (.slice A21 NN c21)).cell 0)
      clear hrun21 hgr21 eg5
      refine hK.out _ _ (HB5.out.block w.heap.size HKW.out) (fun HS => ?_)
      clear hK K
      try simp only [Act.put, List.setIfInBounds_toArray, List.set_cons_zero, List.set_cons_succ]
      refine wpAnyH_take (i := 13) (oi := ?oizflbg13) (v := ?vzflbg13) ?hizflbg13 (by kernel_rfl) (by kernel_rfl) (by kernel_rfl) ?hQzflbg13 ?hyzflbg13 HS ?restzflbg13
      case hizflbg13 => simp only [List.getElem?_toArray, List.getElem?_cons_succ, List.getElem?_cons_zero]; exact rfl
      case hQzflbg13 => exact fun _ _ _ h => h
      case hyzflbg13 =>
        refine Or.inl ⟨by rfl, ?_⟩
        intro wS hSw
        go_simp
        try with_reducible rfl
      try simp only [Act.put, List.setIfInBounds_toArray, List.set_cons_zero, List.set_cons_succ]
      refine wpAnyH_take (i := 14) (oi := ?oizflbg14) (v := ?vzflbg14) ?hizflbg14 (by kernel_rfl) (by kernel_rfl) (by kernel_rfl) ?hQzflbg14 ?hyzflbg14 HS ?restzflbg14
      case hizflbg14 => simp only [List.getElem?_toArray, List.getElem?_cons_succ, List.getElem?_cons_zero]; exact rfl
      case hQzflbg14 => exact fun _ _ _ h => h
      case hyzflbg14 =>
        refine Or.inl ⟨by rfl, ?_⟩
        intro wS hSw
        go_simp
        try with_reducible rfl
      try simp only [Act.put, List.setIfInBounds_toArray, List.set_cons_zero, List.set_cons_succ]
      refine wpAnyH_ready (rs := [15]) (by kernel_rfl) (by simp) ?_
      refine AllReadyH.cons (o := ?ozflbg15) ?hozflbg15 (fun K hK => ?stepzflbg15) AllReadyH.nil
      case hozflbg15 => simp only [List.getElem?_toArray, List.getElem?_cons_succ, List.getElem?_cons_zero]; exact rfl
      go_simp
      refine hK.out _ _ ((Below.heap_setCell w5 ⟨g, 0, none⟩ _ w.heap.size (fun e => by have e' : w.heap.size = g := e; have := HGW.out; omega)).trans (HB5.out.block w.heap.size HKW.out)) (fun HS => ?_)
      clear hK K
      try simp only [Act.put]
      refine wpAnyH_done (by kernel_rfl) ?_ _
      clear HS u0 f5
      have v0 := HV0.out
      go_wp2
      go_ret2
      exact ⟨rfl, RVLeft.after HBW.out HL5.out⟩
  case stepz11 =>
    rw [if_pos (by rfl)]
    obtain ⟨ie, hie, hz0, hz1, hz2⟩ := info_parts Tryz.infoEn
    refine wp_buildSlice 37 210 1 _ rfl #[.int .i64 k.t, .int .i64 k.c, .int .i64 k.e, .string (str b), .string (str p)] ie _ Tryz.underlying37 hie hz0 (by rw [hz1]; decide) (by rw [hz1]; decide) (by rw [hz1]; simp only [List.map_toArray, List.map_cons, List.map_nil]; exact filled_en k (str b) (str p)) ?_
    clear hie hz0 hz1 hz2
    have HB22 : Hid (Below w2.heap.size w2 (w2.drew.alloc (.cells #[.int .i64 k.t, .int .i64 k.c, .int .i64 k.e, .string (str b), .string (str p)] 210))) := hid (HBs.out.alloc HBs.out.size _)
    have HQ22 : Hid (Blk (w2.drew.alloc (.cells #[.int .i64 k.t, .int .i64 k.c, .int .i64 k.e, .string (str b), .string (str p)] 210)) w2.drew.heap.size 210 #[.int .i64 k.t, .int .i64 k.c, .int .i64 k.e, .string (str b), .string (str p)]) := hid (Blk.new w2.drew 210 #[.int .i64 k.t, .int .i64 k.c, .int .i64 k.e, .string (str b), .string (str p)])
    generalize hq22 : w2.drew.heap.size = q22 at *
    clear hq22
    generalize hw22 : w2.drew.alloc (.cells #[.int .i64 k.t, .int .i64 k.c, .int .i64 k.e, .string (str b), .string (str p)] 210) = wx22 at *
    clear hw22
    refine hK.out _ _ (HB22.out.block w.heap.size HKW.out) (fun HS => ?_)
    clear hK K
    try simp only [Act.put, List.setIfInBounds_toArray, List.set_cons_zero, List.set_cons_succ]
    refine wpAnyH_ready (rs := [1, 5]) (by kernel_rfl) (by simp) ?_
    refine (AllReadyH.cons (o := ?ozl1) ?hozl1 (fun K hK => ?stepzl1) (AllReadyH.cons (o := ?ozl5) ?hozl5 (fun K hK => ?stepzl5) AllReadyH.nil))
    case hozl1 => simp only [List.getElem?_toArray, List.getElem?_cons_succ, List.getElem?_cons_zero]; exact rfl
    case hozl5 => simp only [List.getElem?_toArray, List.getElem?_cons_succ, List.getElem?_cons_zero]; exact rfl
    case stepzl1 =>
      rw [if_pos (by rfl)]
      refine wp_buildSlice0 37 210 rfl Tryz.underlying37 Tryz.isInfoEn ?_
      have HB23 : Hid (Below w2.heap.size w2 (wx22.alloc (.cells #[] 210))) := hid (HB22.out.alloc HB22.out.size _)
      have HR23 : Hid ((wx22.alloc (.cells #[] 210)).ownsRow w2.heap.size 210 5 (.slice (some ⟨wx22.heap.size, 0, none⟩) 0 0) 0 []) := hid (own_empty _ _ _ _ HB22.out.size)
      have HQ23 : Hid (Blk (wx22.alloc (.cells #[] 210)) q22 210 #[.int .i64 k.t, .int .i64 k.c, .int .i64 k.e, .string (str b), .string (str p)]) := hid (HQ22.out.keep (((Below.refl _ _).alloc (Nat.le_refl _) _).block _ HQ22.out.lt))
      have HD23 : Hid (wx22.heap.size ≠ q22) := hid (by have := HQ22.out.lt; omega)
      generalize hr23 : wx22.heap.size = r23 at *
      clear hr23
      generalize hw23 : wx22.alloc (.cells #[] 210) = wx23 at *
      clear hw23
      refine hK.out _ _ (HB23.out.block w.heap.size HKW.out) (fun HS => ?_)
      clear hK K
      try simp only [Act.put, List.setIfInBounds_toArray, List.set_cons_zero, List.set_cons_succ]
      refine wpAnyH_ready (rs := [5]) (by kernel_rfl) (by simp) ?_
      refine AllReadyH.cons (o := ?ozlb5) ?hozlb5 (fun K hK => ?stepzlb5) AllReadyH.nil
      case hozlb5 => simp only [List.getElem?_toArray, List.getElem?_cons_succ, List.getElem?_cons_zero]; exact rfl
      rw [if_pos (by rfl)]
      refine wp_load_slice 37 (.tmp 35) rfl 210 Tryz.underlying37 g 0 rfl _ ((World.cell?_of_block (HB23.out.block g HGV.out)).trans yd) ?_
      refine hK.out _ _ (HB23.out.block w.heap.size HKW.out) (fun HS => ?_)
      clear hK K
      try simp only [Act.put, List.setIfInBounds_toArray, List.set_cons_zero, List.set_cons_succ]
      refine wpAnyH_ready (rs := [6]) (by kernel_rfl) (by simp) ?_
      refine AllReadyH.cons (o := ?ozlbf6) ?hozlbf6 (fun K hK => ?stepzlbf6) AllReadyH.nil
      case hozlbf6 => simp only [List.getElem?_toArray, List.getElem?_cons_succ, List.getElem?_cons_zero]; exact rfl
      rw [if_pos (by rfl)]
      obtain ⟨A24, c24, wx24, hrun24, hgr24⟩ := run_append_L (P := Tryz.prog) wx23 37 37 210 _ 5 56 Tryz.underlying37 Tryz.infoEn rfl (by decide) w2.heap.size (some ⟨r23, 0, none⟩) 0 0 [] HR23.out A s.L.length c (recs s.L) (recs_len _) (fun h0 => by obtain ⟨lb, hA, hlt, hrr⟩ := own_range HV2.out.row h0; exact ⟨lb, 0, hA, rangeAt_keep hrr (HB23.out.block lb hlt)⟩) (recs_cell _) (by have := HLL.out; omega) (by have := HLL.out; unfold maxLen; omega) HB23.out.size
      rw [Nat.zero_add, List.nil_append] at hgr24
      rw [Nat.zero_add] at hrun24
      refine wp_append_run 37 _ _ rfl _ _ _ rfl rfl hrun24 ?_
      have HR24 : Hid (wx24.ownsRow w2.heap.size 210 5 (.slice A24 s.L.length c24) s.L.length (recs s.L)) := hid hgr24.1
      have HB24 : Hid (Below w2.heap.size w2 wx24) := hid (HB23.out.grown hgr24.2.2.1 HB23.out.size (fun d hd => by injection hd with hd; have := own_ge HR23.out r23 rfl; have hd : r23 = d := hd; omega))
      have HQ24 : Hid (Blk wx24 q22 210 #[.int .i64 k.t, .int .i64 k.c, .int .i64 k.e, .string (str b), .string (str p)]) := hid (HQ23.out.keep (hgr24.2.2.1.block _ HQ23.out.lt (fun e => by injection e with e; exact HD23.out e.symm)))
      have HD24 : Hid (∀ d, A24.map (·.block) = some d → d ≠ q22) := hid (fun d hd => by
        have := HQ23.out.lt
        rcases hgr24.2.2.2 d hd with e | e
        · injection e with e; exact fun e2 => HD23.out (e.trans e2)
        · omega)
      clear hrun24 hgr24
      refine hK.out _ _ (HB24.out.block w.heap.size HKW.out) (fun HS => ?_)
      clear hK K
      try simp only [Act.put, List.setIfInBounds_toArray, List.set_cons_zero, List.set_cons_succ]
      refine wpAnyH_ready (rs := [12]) (by kernel_rfl) (by simp) ?_
      refine AllReadyH.cons (o := ?ozlbfg12) ?hozlbfg12 (fun K hK => ?stepzlbfg12) AllReadyH.nil
      case hozlbfg12 => simp only [List.getElem?_toArray, List.getElem?_cons_succ, List.getElem?_cons_zero]; exact rfl
      rw [if_pos (by rfl)]
      obtain ⟨A25, c25, w5, hrun25, hgr25⟩ := run_append_L (P := Tryz.prog) wx24 37 37 210 _ 5 56 Tryz.underlying37 Tryz.infoEn rfl (by decide) w2.heap.size A24 s.L.length c24 (recs s.L) HR24.out (some ⟨q22, 0, none⟩) 1 1 (rec5 (⟨k, b, p⟩ : En)) rfl (fun _ => ⟨q22, 0, rfl, fun j v hv => by rw [HQ24.out.cell, Nat.zero_add, List.getElem?_toArray]; exact hv⟩) (rec5_cell _) (by have := HLL.out; omega) (by have := HLL.out; unfold maxLen; omega) HB24.out.size
      have HB5 : Hid (Below w2.heap.size w2 w5) := hid (HB24.out.grown hgr25.2.2.1 HB24.out.size (fun d hd => own_ge HR24.out d hd))
      have HL5 := hid (RVAt.sealed HV2.out (⟨k, b, p⟩ : En) HB5.out hgr25.1)
      rw [HNN.out] at HL5 hrun25
      refine wp_append_run 37 _ _ rfl _ _ _ rfl rfl hrun25 ?_
      have eg5 := HB5.out.block g HGV.out
      have f5 := (HV2.out.blk.keep eg5).frozen 0
      have u0 := (HV2.out.blk.keep eg5).cell 0
      simp only [List.getElem?_toArray, List.getElem?_cons_zero] at u0
      have HV0 : Hid ((w5.setCell ⟨g, 0, none⟩ (.slice A25 NN c25)).cell? ⟨g, 0, none⟩ = some (.slice A25 NN c25)) := hid (by simpa using ((HV2.out.blk.keep eg5).store 0 (.slice A25 NN c25)).cell 0)
      clear hrun25 hgr25 eg5
      refine hK.out _ _ (HB5.out.block w.heap.size HKW.out) (fun HS => ?_)
      clear hK K
      try simp only [Act.put, List.setIfInBounds_toArray, List.set_cons_zero, List.set_cons_succ]
      refine wpAnyH_take (i := 13) (oi := ?oizlbfg13) (v := ?vzlbfg13) ?hizlbfg13 (by kernel_rfl) (by kernel_rfl) (by kernel_rfl) ?hQzlbfg13 ?hyzlbfg13 HS ?restzlbfg13
      case hizlbfg13 => simp only [List.getElem?_toArray, List.getElem?_cons_succ, List.getElem?_cons_zero]; exact rfl
      case hQzlbfg13 => exact fun _ _ _ h => h
      case hyzlbfg13 =>
        refine Or.inl ⟨by rfl, ?_⟩
        intro wS hSw
        go_simp
        try with_reducible rfl
      try simp only [Act.put, List.setIfInBounds_toArray, List.set_cons_zero, List.set_cons_succ]
      refine wpAnyH_take (i := 14) (oi := ?oizlbfg14) (v := ?vzlbfg14) ?hizlbfg14 (by kernel_rfl) (by kernel_rfl) (by kernel_rfl) ?hQzlbfg14 ?hyzlbfg14 HS ?restzlbfg14
      case hizlbfg14 => simp only [List.getElem?_toArray, List.getElem?_cons_succ, List.getElem?_cons_zero]; exact rfl
      case hQzlbfg14 => exact fun _ _ _ h => h
      case hyzlbfg14 =>
        refine Or.inl ⟨by rfl, ?_⟩
        intro wS hSw
        go_simp
        try with_reducible rfl
      try simp only [Act.put, List.setIfInBounds_toArray, List.set_cons_zero, List.set_cons_succ]
      refine wpAnyH_ready (rs := [15]) (by kernel_rfl) (by simp) ?_
      refine AllReadyH.cons (o := ?ozlbfg15) ?hozlbfg15 (fun K hK => ?stepzlbfg15) AllReadyH.nil
      case hozlbfg15 => simp only [List.getElem?_toArray, List.getElem?_cons_succ, List.getElem?_cons_zero]; exact rfl
      go_simp
      refine hK.out _ _ ((Below.heap_setCell w5 ⟨g, 0, none⟩ _ w.heap.size (fun e => by have e' : w.heap.size = g := e; have := HGW.out; omega)).trans (HB5.out.block w.heap.size HKW.out)) (fun HS => ?_)
      clear hK K
      try simp only [Act.put]
      refine wpAnyH_done (by kernel_rfl) ?_ _
      clear HS u0 f5
      have v0 := HV0.out
      go_wp2
      go_ret2
      exact ⟨rfl, RVLeft.after HBW.out HL5.out⟩
    case stepzl5 =>
      rw [if_pos (by rfl)]
      refine wp_load_slice 37 (.tmp 35) rfl 210 Tryz.underlying37 g 0 rfl _ ((World.cell?_of_block (HB22.out.block g HGV.out)).trans yd) ?_
      refine hK.out _ _ (HB22.out.block w.heap.size HKW.out) (fun HS => ?_)
      clear hK K
      try simp only [Act.put, List.setIfInBounds_toArray, List.set_cons_zero, List.set_cons_succ]
      refine wpAnyH_ready (rs := [1]) (by kernel_rfl) (by simp) ?_
      refine AllReadyH.cons (o := ?ozlf1) ?hozlf1 (fun K hK => ?stepzlf1) AllReadyH.nil
      case hozlf1 => simp only [List.getElem?_toArray, List.getElem?_cons_succ, List.getElem?_cons_zero]; exact rfl
      rw [if_pos (by rfl)]
      refine wp_buildSlice0 37 210 rfl Tryz.underlying37 Tryz.isInfoEn ?_
      have HB26 : Hid (Below w2.heap.size w2 (wx22.alloc (.cells #[] 210))) := hid (HB22.out.alloc HB22.out.size _)
      have HR26 : Hid ((wx22.alloc (.cells #[] 210)).ownsRow w2.heap.size 210 5 (.slice (some ⟨wx22.heap.size, 0, none⟩) 0 0) 0 []) := hid (own_empty _ _ _ _ HB22.out.size)
      have HQ26 : Hid (Blk (wx22.alloc (.cells #[] 210)) q22 210 #[.int .i64 k.t, .int .i64 k.c, .int .i64 k.e, .string (str b), .string (str p)]) := hid (HQ22.out.keep (((Below.refl _ _).alloc (Nat.le_refl _) _).block _ HQ22.out.lt))
      have HD26 : Hid (wx22.heap.size ≠ q22) := hid (by have := HQ22.out.lt; omega)
      generalize hr26 : wx22.heap.size = r26 at *
      clear hr26
      generalize hw26 : wx22.alloc (.cells #[] 210) = wx26 at *
      clear hw26
      refine hK.out _ _ (HB26.out.block w.heap.size HKW.out) (fun HS => ?_)
      clear hK K
      try simp only [Act.put, List.setIfInBounds_toArray, List.set_cons_zero, List.set_cons_succ]
      refine wpAnyH_ready (rs := [6]) (by kernel_rfl) (by simp) ?_
      refine AllReadyH.cons (o := ?ozlfb6) ?hozlfb6 (fun K hK => ?stepzlfb6) AllReadyH.nil
      case hozlfb6 => simp only [List.getElem?_toArray, List.getElem?_cons_succ, List.getElem?_cons_zero]; exact rfl
      rw [if_pos (by rfl)]
      obtain ⟨A27, c27, wx27, hrun27, hgr27⟩ := run_append_L (P := Tryz.prog) wx26 37 37 210 _ 5 56 Tryz.underlying37 Tryz.infoEn rfl (by decide) w2.heap.size (some ⟨r26, 0, none⟩) 0 0 [] HR26.out A s.L.length c (recs s.L) (recs_len _) (fun h0 => by obtain ⟨lb, hA, hlt, hrr⟩ := own_range HV2.out.row h0; exact ⟨lb, 0, hA, rangeAt_keep hrr (HB26.out.block lb hlt)⟩) (recs_cell _) (by have := HLL.out; omega) (by have := HLL.out; unfold maxLen; omega) HB26.out.size
      rw [Nat.zero_add, List.nil_append] at hgr27
      rw [Nat.zero_add] at hrun27
      refine wp_append_run 37 _ _ rfl _ _ _ rfl rfl hrun27 ?_
      have HR27 : Hid (wx27.ownsRow w2.heap.size 210 5 (.slice A27 s.L.length c27) s.L.length (recs s.L)) := hid hgr27.1
      have HB27 : Hid (Below w2.heap.size w2 wx27) := hid (HB26.out.grown hgr27.2.2.1 HB26.out.size (fun d hd => by injection hd with hd; have := own_ge HR26.out r26 rfl; have hd : r26 = d := hd; omega))
      have HQ27 : Hid (Blk wx27 q22 210 #[.int .i64 k.t, .int .i64 k.c, .int .i64 k.e, .string (str b), .string (str p)]) := hid (HQ26.out.keep (hgr27.2.2.1.block _ HQ26.out.lt (fun e => by injection e with e; exact HD26.out e.symm)))
      have HD27 : Hid (∀ d, A27.map (·.block) = some d → d ≠ q22) := hid (fun d hd => by
        have := HQ26.out.lt
        rcases hgr27.2.2.2 d hd with e | e
        · injection e with e; exact fun e2 => HD26.out (e.trans e2)
        · omega)
      clear hrun27 hgr27
      refine hK.out _ _ (HB27.out.block w.heap.size HKW.out) (fun HS => ?_)
      clear hK K
      try simp only [Act.put, List.setIfInBounds_toArray, List.set_cons_zero, List.set_cons_succ]
      refine wpAnyH_ready (rs := [12]) (by kernel_rfl) (by simp) ?_
      refine AllReadyH.cons (o := ?ozlfbg12) ?hozlfbg12 (fun K hK => ?stepzlfbg12) AllReadyH.nil
      case hozlfbg12 => simp only [List.getElem?_toArray, List.getElem?_cons_succ, List.getElem?_cons_zero]; exact rfl
      rw [if_pos (by rfl)]
      obtain ⟨A28, c28, w5, hrun28, hgr28⟩ := run_append_L (P := Tryz.prog) wx27 37 37 210 _ 5 56 Tryz.underlying37 Tryz.infoEn rfl (by decide) w2.heap.size A27 s.L.length c27 (recs s.L) HR27.out (some ⟨q22, 0, none⟩) 1 1 (rec5 (⟨k, b, p⟩ : En)) rfl (fun _ => ⟨q22, 0, rfl, fun j v hv => by rw [HQ27.out.cell, Nat.zero_add, List.getElem?_toArray]; exact hv⟩) (rec5_cell _) (by have := HLL.out; omega) (by have := HLL.out; unfold maxLen; omega) HB27.out.size
      have HB5 : Hid (Below w2.heap.size w2 w5) := hid (HB27.out.grown hgr28.2.2.1 HB27.out.size (fun d hd => own_ge HR27.out d hd))
      have HL5 := hid (RVAt.sealed HV2.out (⟨k, b, p⟩ : En) HB5.out hgr28.1)
      rw [HNN.out] at HL5 hrun28
      refine wp_append_run 37 _ _ rfl _ _ _ rfl rfl hrun28 ?_
      have eg5 := HB5.out.block g HGV.out
      have f5 := (HV2.out.blk.keep eg5).frozen 0
      have u0 := (HV2.out.blk.keep eg5).cell 0
      simp only [List.getElem?_toArray, List.getElem?_cons_zero] at u0
      have HV0 : Hid ((w5.setCell ⟨g, 0, none⟩ (.slice A28 NN c28)).cell? ⟨g, 0, none⟩ = some (.slice A28 NN c28)) := hid (by simpa using ((HV2.out.blk.keep eg5).store 0 (.slice A28 NN c28)).cell 0)
      clear hrun28 hgr28 eg5
      refine hK.out _ _ (HB5.out.block w.heap.size HKW.out) (fun HS => ?_)
      clear hK K
      try simp only [Act.put, List.setIfInBounds_toArray, List.set_cons_zero, List.set_cons_succ]
      refine wpAnyH_take (i := 13) (oi := ?oizlfbg13) (v := ?vzlfbg13) ?hizlfbg13 (by kernel_rfl) (by kernel_rfl) (by kernel_rfl) ?hQzlfbg13 ?hyzlfbg13 HS ?restzlfbg13
      case hizlfbg13 => simp only [List.getElem?_toArray, List.getElem?_cons_succ, List.getElem?_cons_zero]; exact rfl
      case hQzlfbg13 => exact fun _ _ _ h => h
      case hyzlfbg13 =>
        refine Or.inl ⟨by rfl, ?_⟩
        intro wS hSw
        go_simp
        try with_reducible rfl
      try simp only [Act.put, List.setIfInBounds_toArray, List.set_cons_zero, List.set_cons_succ]
      refine wpAnyH_take (i := 14) (oi := ?oizlfbg14) (v := ?vzlfbg14) ?hizlfbg14 (by kernel_rfl) (by kernel_rfl) (by kernel_rfl) ?hQzlfbg14 ?hyzlfbg14 HS ?restzlfbg14
      case hizlfbg14 => simp only [List.getElem?_toArray, List.getElem?_cons_succ, List.getElem?_cons_zero]; exact rfl
      case hQzlfbg14 => exact fun _ _ _ h => h
      case hyzlfbg14 =>
        refine Or.inl ⟨by rfl, ?_⟩
        intro wS hSw
        go_simp
        try with_reducible rfl
      try simp only [Act.put, List.setIfInBounds_toArray, List.set_cons_zero, List.set_cons_succ]
      refine wpAnyH_ready (rs := [15]) (by kernel_rfl) (by simp) ?_
      refine AllReadyH.cons (o := ?ozlfbg15) ?hozlfbg15 (fun K hK => ?stepzlfbg15) AllReadyH.nil
      case hozlfbg15 => simp only [List.getElem?_toArray, List.getElem?_cons_succ, List.getElem?_cons_zero]; exact rfl
      go_simp
      refine hK.out _ _ ((Below.heap_setCell w5 ⟨g, 0, none⟩ _ w.heap.size (fun e => by have e' : w.heap.size = g := e; have := HGW.out; omega)).trans (HB5.out.block w.heap.size HKW.out)) (fun HS => ?_)
      clear hK K
      try simp only [Act.put]
      refine wpAnyH_done (by kernel_rfl) ?_ _
      clear HS u0 f5
      have v0 := HV0.out
      go_wp2
      go_ret2
      exact ⟨rfl, RVLeft.after HBW.out HL5.out⟩
end Go.Proofs.YtadhbjekbfdpiaaGreat

/- A vault and the document's vault, side by side: what is alike in both; what the law's own loops ask. -/
namespace Go.Proofs.YtadhbjekbfdpiaaGreat
open Go.RowKit

/-- The vault forgets the bytes of keys that are destroyed; the document's does not. -/
structure Sim (s t : Va) : Prop where
  G : s.G = t.G
  len : s.L.length = t.L.length
  ent : ∀ i (h1 : i < s.L.length) (h2 : i < t.L.length), s.L[i].k = t.L[i].k ∧ (¬ s.L[i].k ∈ s.G → s.L[i] = t.L[i])
theorem Sim.new : Sim Va.new Va.new := ⟨rfl, rfl, fun i h1 _ => absurd h1 (by simp [Va.new])⟩
theorem Sim.seE {s t : Va} (h : Sim s t) (k : Ky) (n : Nat) : seE s k n = seE t k n := by unfold Go.Proofs.YtadhbjekbfdpiaaGreat.seE; rw [h.G]
theorem Sim.seH {s t : Va} (h : Sim s t) (k : Ky) (n : Nat) : seH s k n = seH t k n := by unfold Go.Proofs.YtadhbjekbfdpiaaGreat.seH; rw [h.G, h.len]
theorem Sim.seS {s t : Va} (h : Sim s t) (k : Ky) (b p : List UInt8) : Sim (seS s k b p) (seS t k b p) := by
  unfold Go.Proofs.YtadhbjekbfdpiaaGreat.seS
  split
  · exact h
  · rw [h.G]
    split
    · exact h
    · refine ⟨rfl, by simp [h.len], fun i h1 h2 => ?_⟩
      simp only [List.length_append, List.length_singleton] at h1 h2
      by_cases hi : i < s.L.length
      · have hi2 : i < t.L.length := by rw [← h.len]; exact hi
        simp only [List.getElem_append_left hi, List.getElem_append_left hi2]
        have := h.ent i hi hi2
        rw [h.G] at this
        exact this
      · have e1 : i = s.L.length := by omega
        have e2 : i = t.L.length := by rw [← h.len]; exact e1
        have x1 : (s.L ++ [(⟨k, b, p⟩ : En)])[i]'(by simp; omega) = ⟨k, b, p⟩ := by simp [e1]
        have x2 : (t.L ++ [(⟨k, b, p⟩ : En)])[i]'(by simp; omega) = ⟨k, b, p⟩ := by simp [e2]
        simp only [x1, x2]
        exact ⟨trivial, fun _ => trivial⟩
theorem Sim.destroy {s t : Va} (h : Sim s t) (k : Ky) : Sim (s.destroy k) ⟨t.L, t.G ++ [k]⟩ := by
  refine ⟨by show s.G ++ [k] = _; rw [h.G], by show (s.L.map (wipe k)).length = _; rw [List.length_map]; exact h.len, fun i h1 h2 => ?_⟩
  have hi : i < s.L.length := by simpa [Va.destroy] using h1
  have e : (s.destroy k).L[i] = wipe k s.L[i] := by simp [Va.destroy]
  rw [e, wipe_k]
  refine ⟨(h.ent i hi h2).1, fun hn => ?_⟩
  have hn' : ¬ (s.L[i].k ∈ s.G) ∧ ¬ s.L[i].k = k := by
    have : ¬ s.L[i].k ∈ s.G ++ [k] := hn
    simpa using this
  rw [show wipe k s.L[i] = s.L[i] from if_neg hn'.2]
  exact (h.ent i hi h2).2 hn'.1
theorem Sim.behind {s t : Va} (h : Sim s t) (hd : Nat) : (behind s.L hd).map (·.k) = (behind t.L hd).map (·.k) ∧ ∀ x, behind s.L hd = some x → ¬ x.k ∈ s.G → behind t.L hd = some x := by
  unfold Go.Proofs.YtadhbjekbfdpiaaGreat.behind
  by_cases h0 : hd = 0
  · rw [if_pos h0, if_pos h0]; exact ⟨rfl, fun x hx => by cases hx⟩
  · rw [if_neg h0, if_neg h0]
    by_cases hi : hd - 1 < s.L.length
    · have hi2 : hd - 1 < t.L.length := by rw [← h.len]; exact hi
      rw [List.getElem?_eq_getElem hi, List.getElem?_eq_getElem hi2]
      obtain ⟨a1, a2⟩ := h.ent _ hi hi2
      refine ⟨by simp [a1], fun x hx hn => ?_⟩
      injection hx with hx
      subst hx
      rw [a2 hn]
    · rw [List.getElem?_eq_none (by omega), List.getElem?_eq_none (by have := h.len; omega)]
      exact ⟨rfl, fun x hx => by cases hx⟩
theorem Sim.uK {s t : Va} (h : Sim s t) (hd : Nat) : uK s hd = uK t hd := by
  unfold Go.Proofs.YtadhbjekbfdpiaaGreat.uK
  rw [(h.behind hd).1]
theorem Sim.opX {s t : Va} (h : Sim s t) (k : Ky) (b : List UInt8) (hd : Nat) (hk : ¬ k ∈ s.G) : opX s k b hd = opX t k b hd := by
  unfold Go.Proofs.YtadhbjekbfdpiaaGreat.opX
  obtain ⟨h1, h2⟩ := h.behind hd
  cases e : Go.Proofs.YtadhbjekbfdpiaaGreat.behind s.L hd with
  | none =>
    rw [e] at h1
    have : Go.Proofs.YtadhbjekbfdpiaaGreat.behind t.L hd = none := by
      cases e2 : Go.Proofs.YtadhbjekbfdpiaaGreat.behind t.L hd with
      | none => rfl
      | some y => rw [e2] at h1; cases h1
    rw [this]
  | some x =>
    cases e2 : Go.Proofs.YtadhbjekbfdpiaaGreat.behind t.L hd with
    | none => rw [e, e2] at h1; cases h1
    | some y =>
      have hxy : x.k = y.k := by rw [e, e2] at h1; simpa using h1
      by_cases hxk : x.k = k
      · have := h2 x e (by rw [hxk]; exact hk)
        rw [e2] at this
        injection this with this
        rw [this]
      · show (if x.k = k ∧ x.b = b then some x.p else none) = (if y.k = k ∧ y.b = b then some y.p else none)
        rw [if_neg (fun e => hxk e.1), if_neg (fun e => hxk (hxy.trans e.1))]
theorem Sim.opE {s t : Va} (h : Sim s t) (k : Ky) (b : List UInt8) (hd : Nat) : opE s k b hd = opE t k b hd := by
  unfold Go.Proofs.YtadhbjekbfdpiaaGreat.opE
  by_cases hk : k ∈ s.G
  · rw [if_pos hk, if_pos (h.G ▸ hk)]
  · rw [if_neg hk, if_neg (fun e => hk (h.G ▸ e)), h.opX k b hd hk]
theorem Sim.opB {s t : Va} (h : Sim s t) (k : Ky) (b : List UInt8) (hd : Nat) : opB s k b hd = opB t k b hd := by
  unfold Go.Proofs.YtadhbjekbfdpiaaGreat.opB
  by_cases hk : k ∈ s.G
  · rw [if_pos hk, if_pos (h.G ▸ hk)]
  · rw [if_neg hk, if_neg (fun e => hk (h.G ▸ e)), h.opX k b hd hk]
theorem uK_at {s : Va} {q : Nat} (hq : q < s.L.length) : uK s (q + 1) = s.L[q].k := by
  unfold uK behind
  rw [if_neg (by omega), Nat.add_sub_cancel, List.getElem?_eq_getElem hq]
  rfl
theorem uK_no {s : Va} {q : Nat} (hq : ¬ (1 ≤ q ∧ q ≤ s.L.length)) : uK s q = ⟨0, 0, 0⟩ := by
  unfold uK behind
  by_cases h0 : q = 0
  · rw [if_pos h0]; rfl
  · rw [if_neg h0, List.getElem?_eq_none (by omega)]; rfl

/-- A vault and the document's, apart, both new since w; the blocks of X are of neither. -/
def VTw (w wr : World) (g e : Nat) (s t : Va) (X : Nat → Prop) : Prop := ∃ F G : Nat → Prop, Vlt wr F g s ∧ RVt wr G e t ∧ (∀ j, F j → ¬ G j) ∧ (∀ j, F j → w.heap.size ≤ j) ∧ (∀ j, G j → w.heap.size ≤ j) ∧ Below w.heap.size w wr ∧ (∀ x, X x → ¬ F x ∧ ¬ G x ∧ x < wr.heap.size ∧ w.heap.size ≤ x)
section
variable {w wr : World} {g e : Nat} {s t : Va} {X : Nat → Prop}
theorem VTw.below (h : VTw w wr g e s t X) : Below w.heap.size w wr := by
  obtain ⟨F, G, _, _, _, _, _, h, _⟩ := h
  exact h
theorem VTw.bel (h : VTw w wr g e s t X) {wr' : World} (hb : Below wr.heap.size wr wr') : VTw w wr' g e s t X := by
  obtain ⟨F, G, h1, h2, h3, h4, h5, h6, h7⟩ := h
  exact ⟨F, G, h1.bel hb, h2.bel hb, h3, h4, h5, h6.trans (hb.mono h6.size), fun x hx => ⟨(h7 x hx).1, (h7 x hx).2.1, Nat.lt_of_lt_of_le (h7 x hx).2.2.1 hb.size, (h7 x hx).2.2.2⟩⟩
theorem VTw.add (h : VTw w wr g e s t X) {w2 : World} (hb : Below wr.heap.size wr w2) (Y : Nat → Prop) (hY : ∀ x, Y x → wr.heap.size ≤ x ∧ x < w2.heap.size) : VTw w w2 g e s t (fun x => X x ∨ Y x) := by
  obtain ⟨F, G, h1, h2, h3, h4, h5, h6, h7⟩ := h
  refine ⟨F, G, h1.bel hb, h2.bel hb, h3, h4, h5, h6.trans (hb.mono h6.size), fun x hx => ?_⟩
  rcases hx with hx | hx
  · exact ⟨(h7 x hx).1, (h7 x hx).2.1, Nat.lt_of_lt_of_le (h7 x hx).2.2.1 hb.size, (h7 x hx).2.2.2⟩
  · have := hY x hx
    have := h6.size
    exact ⟨fun e => by have := h1.lt x e; omega, fun e => by have := h2.lt x e; omega, by omega, by omega⟩
theorem VTw.less (h : VTw w wr g e s t X) {Y : Nat → Prop} (hY : ∀ x, Y x → X x) : VTw w wr g e s t Y := by
  obtain ⟨F, G, h1, h2, h3, h4, h5, h6, h7⟩ := h
  exact ⟨F, G, h1, h2, h3, h4, h5, h6, fun x hx => h7 x (hY x hx)⟩
theorem VTw.set (h : VTw w wr g e s t X) {v : Nat} (hv : X v) (o : Nat) (u : Value) : VTw w (wr.setCell ⟨v, o, none⟩ u) g e s t X := by
  obtain ⟨F, G, h1, h2, h3, h4, h5, h6, h7⟩ := h
  have hg := grown_setCell wr v o u
  obtain ⟨a1, a2, a3, a4⟩ := h7 v hv
  exact ⟨F, G, h1.keep hg.size fun j hj => hg.block j (h1.lt j hj) (fun e => a1 (by injection e with e; rw [← e]; exact hj)), h2.keep hg.size fun j hj => hg.block j (h2.lt j hj) (fun e => a2 (by injection e with e; rw [← e]; exact hj)), h3, h4, h5, h6.grown hg h6.size (fun k hk => by injection hk with hk; omega), fun x hx => ⟨(h7 x hx).1, (h7 x hx).2.1, Nat.lt_of_lt_of_le (h7 x hx).2.2.1 hg.size, (h7 x hx).2.2.2⟩⟩
theorem VTw.lt (h : VTw w wr g e s t X) {x : Nat} (hx : X x) : x < wr.heap.size := by
  obtain ⟨F, G, h1, h2, h3, h4, h5, h6, h7⟩ := h
  exact (h7 x hx).2.2.1
theorem VTw.one (h : VTw w wr g e s t X) : ∃ F, Vlt wr F g s ∧ (∀ j, F j → w.heap.size ≤ j) ∧ (∀ x, X x → ¬ F x) ∧ ∀ wr' s', VLeft wr wr' F g s' → VTw w wr' g e s' t X ∧ wr.heap.size ≤ wr'.heap.size ∧ ∀ x, X x → wr'.heap[x]? = wr.heap[x]? := by
  obtain ⟨F, G, h1, h2, h3, h4, h5, h6, h7⟩ := h
  refine ⟨F, h1, h4, fun x hx => (h7 x hx).1, fun wr' s' hL => ?_⟩
  obtain ⟨F', hd, hk, hF'⟩ := hL
  refine ⟨⟨F', G, hd, h2.kp hk fun j hj e => h3 j e hj, fun j hj hg => ?_, fun j hj => ?_, h5, h6.trans (hk.below h4 h6.size), fun x hx => ?_⟩, hk.size, fun x hx => hk.block x (h7 x hx).2.2.1 (h7 x hx).1⟩
  · rcases hF' j hj with e | e
    · exact h3 j e hg
    · have := h2.lt j hg; omega
  · rcases hF' j hj with e | e
    · exact h4 j e
    · have := h6.size; omega
  · obtain ⟨a1, a2, a3, a4⟩ := h7 x hx
    exact ⟨fun e => by rcases hF' x e with e | e; exact a1 e; omega, a2, Nat.lt_of_lt_of_le a3 hk.size, a4⟩
theorem VTw.two (h : VTw w wr g e s t X) : ∃ G, RVt wr G e t ∧ (∀ j, G j → w.heap.size ≤ j) ∧ (∀ x, X x → ¬ G x) ∧ ∀ wr' t', RVLeft wr wr' G e t' → VTw w wr' g e s t' X ∧ wr.heap.size ≤ wr'.heap.size ∧ ∀ x, X x → wr'.heap[x]? = wr.heap[x]? := by
  obtain ⟨F, G, h1, h2, h3, h4, h5, h6, h7⟩ := h
  refine ⟨G, h2, h5, fun x hx => (h7 x hx).2.1, fun wr' s' hL => ?_⟩
  obtain ⟨G', hd, hk, hG'⟩ := hL
  refine ⟨⟨F, G', h1.kp hk fun j hj e => h3 j hj e, hd, fun j hj hg => ?_, h4, fun j hj => ?_, h6.trans (hk.below h5 h6.size), fun x hx => ?_⟩, hk.size, fun x hx => hk.block x (h7 x hx).2.2.1 (h7 x hx).2.1⟩
  · rcases hG' j hg with e | e
    · exact h3 j hj e
    · have := h1.lt j hj; omega
  · rcases hG' j hj with e | e
    · exact h5 j e
    · have := h6.size; omega
  · obtain ⟨a1, a2, a3, a4⟩ := h7 x hx
    exact ⟨a1, fun e => by rcases hG' x e with e | e; exact a2 e; omega, Nat.lt_of_lt_of_le a3 hk.size, a4⟩
end

theorem RVAt.gone {w w5 : World} {F : Nat → Prop} {g : Nat} {s : Va} {A : Option Addr} {c : Nat} {B : Option Addr} {d : Nat} (h : RVAt w F g s A c B d) (k : Ky) (hg5 : w.grownBy w5 (B.map (·.block))) {B5 : Option Addr} {d5 : Nat}
    (ho : KRow w5 B5 d5 (s.G ++ [k])) (hL : Lies B B5 w.heap.size) :
    RVLeft w (w5.setCell ⟨g, 1, none⟩ (.slice B5 (s.G ++ [k]).length d5)) F g ⟨s.L, s.G ++ [k]⟩ := by
  have hg6 := grown_setCell w5 g 1 (.slice B5 (s.G ++ [k]).length d5)
  have s5 := hg5.size
  have s6 := hg6.size
  have lg := h.F g h.Fg
  have k5 : ∀ j, j < w.heap.size → B.map (·.block) ≠ some j → w5.heap[j]? = w.heap[j]? := fun j hj hne => hg5.block j hj (fun e => hne e.symm)
  have k6 : ∀ j, j < w5.heap.size → j ≠ g → (w5.setCell ⟨g, 1, none⟩ (.slice B5 (s.G ++ [k]).length d5)).heap[j]? = w5.heap[j]? := fun j hj hne => hg6.block j hj (fun e => hne (by injection e))
  have B1 : ∀ b, B5.map (·.block) = some b → b ≠ g ∧ (F b ∨ w.heap.size ≤ b) ∧ b < w5.heap.size ∧ A.map (·.block) ≠ some b := fun b hb => by
    rcases hL b hb with e | e
    · exact ⟨(h.Bg b e).1, .inl (h.Bg b e).2, own_lt ho b hb, fun e2 => (h.Ag b e2).2.2 e⟩
    · exact ⟨by omega, .inr (by omega), own_lt ho b hb, fun e2 => by have := h.F b (h.Ag b e2).2.1; omega⟩
  refine ⟨fun j => (F j ∨ w.heap.size ≤ j) ∧ j < w5.heap.size, ⟨A, c, B5, d5, ?_, ?_, ?_, fun b hb' => ?_, fun b hb' => ?_, ⟨.inl h.Fg, by omega⟩, fun j hj => by have := hj.2; omega⟩, ?_, fun j hj => hj.1⟩
  · exact (h.blk.keep (k5 g lg (fun e => (h.Bg g e).1 rfl))).store 1 (.slice B5 (s.G ++ [k]).length d5)
  · exact own_keep h.row fun b hb' => by
      have := h.F b (h.Ag b hb').2.1
      exact (k6 b (by omega) (h.Ag b hb').1).trans (k5 b this (h.Ag b hb').2.2)
  · exact ho.keep fun b hb' => k6 b (own_lt ho b hb') (B1 b hb').1
  · have := h.F b (h.Ag b hb').2.1
    exact ⟨(h.Ag b hb').1, ⟨.inl (h.Ag b hb').2.1, by omega⟩, fun e => (B1 b e).2.2.2 hb'⟩
  · exact ⟨(B1 b hb').1, (B1 b hb').2.1, (B1 b hb').2.2.1⟩
  · exact ⟨hg6.os.trans hg5.os, hg6.tape.trans hg5.tape, hg6.output.trans hg5.output, by omega, fun j hj hF =>
      (k6 j (by omega) (fun e => hF (e ▸ h.Fg))).trans (k5 j hj fun e => hF (h.Bg j e).2)⟩
theorem RVt.new (w : World) : RVt (w.alloc (.cells #[.slice none 0 0, .slice none 0 0] 40)) (fun j => j = w.heap.size) w.heap.size Va.new :=
  ⟨none, 0, none, 0, Blk.new w 40 #[.slice none 0 0, .slice none 0 0], own_nilrow _ _ _ _, own_nilrow _ _ _ _, fun b hb => (by cases hb), fun b hb => (by cases hb), rfl, fun j hj => (by subst hj; simp)⟩
theorem inv_own {wr : World} {base : Nat} {A : Option Addr} {n c q : Nat} {zs : List UInt8} (ho : wr.ownsRow base 5 1 (.slice A n c) n (bs zs)) (hl : zs.length = n) (hq : q < n) :
    ∃ (ab : Nat) (bb : UInt8), A = some ⟨ab, 0, none⟩ ∧ base ≤ ab ∧ wr.cell? ⟨ab, q, none⟩ = some (.int .u8 (bb.toNat : Int)) ∧ wr.frozen? ⟨ab, q, none⟩ = false ∧ ∀ b' : UInt8, (wr.setCell ⟨ab, q, none⟩ (.int .u8 (b'.toNat : Int))).ownsRow base 5 1 (.slice (some ⟨ab, 0, none⟩) n c) n (bs (zs.set q b')) := by
  obtain ⟨ab, rfl, h1, h2, hfr⟩ := own_some ho (by omega)
  refine ⟨ab, zs[q]'(by omega), rfl, h1, ?_, hfr q, fun b' => ?_⟩
  · rw [ho.cellAt q (by omega)]
    exact bs_get zs q (by omega)
  · rw [← bs_set]
    exact own_store ho _
theorem kmod3 (i : Int) : ∃ k : Nat, k < 3 ∧ (IntKind.u64.wrap i).tmod 3 = (k : Int) := by
  have h0 : 0 ≤ IntKind.u64.wrap i := by rw [IntKind.wrap_u64]; omega
  have h1 : (IntKind.u64.wrap i).tmod 3 = (IntKind.u64.wrap i) % 3 := Int.tmod_eq_emod_of_nonneg h0
  exact ⟨((IntKind.u64.wrap i) % 3).toNat, by omega, by rw [h1]; omega⟩
theorem under_tw (w wr : World) (g e : Nat) (s t : Va) (X : Nat → Prop) (h : VTw w wr g e s t X) (H : Int) (hd : Nat) (hH : H = (hd : Int)) (hh : hd < 18446744073709551616) :
    Calls Tryz.prog 43 #[.pointer (some ⟨g, 0, none⟩), .int .u64 H] wr fun e w' => e = .returned (.tuple #[(.agg #[.int .i64 (uK s hd).t, .int .i64 (uK s hd).c, .int .i64 (uK s hd).e]), .bool (decide (1 ≤ hd ∧ hd ≤ s.L.length))]) ∧ Below wr.heap.size wr w' := by
  obtain ⟨F, h1, _⟩ := h.one
  exact under_c wr F g s h1 H hd hH hh
/-- The document's vault within a pair: its own cells. -/
theorem VTw.ref {w wr : World} {g e : Nat} {s t : Va} {X : Nat → Prop} (h : VTw w wr g e s t X) : ∃ A c B d G, RVAt wr G e t A c B d ∧ (∀ j, G j → w.heap.size ≤ j) := by
  obtain ⟨G, ⟨A, c, B, d, h1⟩, h2, _⟩ := h.two
  exact ⟨A, c, B, d, G, h1, h2⟩
/-- A key more that is destroyed, in the document's vault of a pair. -/
theorem VTw.gone2 {w wr : World} {g e : Nat} {s t : Va} {X : Nat → Prop} (h : VTw w wr g e s t X) (k : Ky) : ∃ A c B d, Blk wr e 40 #[.slice A t.L.length c, .slice B t.G.length d] ∧ KRow wr B d t.G ∧ (∀ x, B.map (·.block) = some x → x ≠ e ∧ ¬ X x) ∧ (∀ x, X x → x ≠ e) ∧
    ∀ (w8 w5 : World) (B5 : Option Addr) (d5 : Nat), Below wr.heap.size wr w8 → w8.grownBy w5 (B.map (·.block)) → KRow w5 B5 d5 (t.G ++ [k]) → Lies B B5 w8.heap.size →
      VTw w (w5.setCell ⟨e, 1, none⟩ (.slice B5 (t.G ++ [k]).length d5)) g e s ⟨t.L, t.G ++ [k]⟩ X ∧ ∀ x, X x → (w5.setCell ⟨e, 1, none⟩ (.slice B5 (t.G ++ [k]).length d5)).heap[x]? = wr.heap[x]? := by
  obtain ⟨F, G, h1, ⟨A, c, B, d, h2⟩, h3, h4, h5, h6, h7⟩ := h
  refine ⟨A, c, B, d, h2.blk, h2.gon, fun x hx => ⟨(h2.Bg x hx).1, fun hX => (h7 x hX).2.1 (h2.Bg x hx).2⟩, fun x hx he => (h7 x hx).2.1 (he ▸ h2.Fg), fun w8 w5 B5 d5 hb hg ho hL => ?_⟩
  have hT8 : VTw w w8 g e s t X := VTw.bel ⟨F, G, h1, ⟨A, c, B, d, h2⟩, h3, h4, h5, h6, h7⟩ hb
  have hl := (h2.bel hb).gone k hg ho hL
  have h78 : ∀ x, X x → ¬ F x ∧ ¬ G x ∧ x < w8.heap.size ∧ w.heap.size ≤ x := fun x hx => ⟨(h7 x hx).1, (h7 x hx).2.1, Nat.lt_of_lt_of_le (h7 x hx).2.2.1 hb.size, (h7 x hx).2.2.2⟩
  obtain ⟨G', hd, hk, hG'⟩ := hl
  have h68 : Below w.heap.size w w8 := h6.trans (hb.mono h6.size)
  refine ⟨⟨F, G', (h1.bel hb).kp hk fun j hj e => h3 j hj e, hd, fun j hj hg => ?_, h4, fun j hj => ?_, h68.trans (hk.below h5 h68.size), fun x hx => ?_⟩, fun x hx => (hk.block x (h78 x hx).2.2.1 (h78 x hx).2.1).trans (hb.block x (h7 x hx).2.2.1)⟩
  · rcases hG' j hg with e | e
    · exact h3 j hj e
    · have := (h1.bel hb).lt j hj; omega
  · rcases hG' j hj with e | e
    · exact h5 j e
    · have := h68.size; omega
  · obtain ⟨a1, a2, a3, a4⟩ := h78 x hx
    exact ⟨a1, fun e => by rcases hG' x e with e | e; exact a2 e; omega, Nat.lt_of_lt_of_le a3 hk.size, a4⟩
theorem filled_key (k : Ky) : Instr.fill (fun j => some (j * 3, 3)) ((Array.range (1 * 3)).map ((#[.int .i64 0, .int .i64 0, .int .i64 0] : Array Value)[· % 3]!)) [(0, (.agg #[.int .i64 (k).t, .int .i64 (k).c, .int .i64 (k).e]))] = some #[.int .i64 k.t, .int .i64 k.c, .int .i64 k.e] := by kernel_rfl
end Go.Proofs.YtadhbjekbfdpiaaGreat
