import Derived.Test.YtolaojkcofbkhaaGreatApL
namespace Go.Proofs.YtolaojkcofbkhaaGreat
set_option maxRecDepth 100000
set_option maxHeartbeats 4000000
open Go.RowKit
def rec5 (x : En) : List Value := [.int .i64 x.k.t, .int .i64 x.k.c, .int .i64 x.k.e, .string (str x.b), .string (str x.p)]
def recs (L : List En) : List Value := L.flatMap rec5
theorem recs_app (a b : List En) : recs (a ++ b) = recs a ++ recs b := by simp [recs]
theorem recs_one (x : En) : recs [x] = rec5 x := by simp [recs]
theorem recs_len (L : List En) : (recs L).length = L.length * 5 := by
 induction L with
 | nil => rfl
 | cons x r ih =>
  show (rec5 x ++ recs r).length = _
  rw [List.length_append, ih]
  simp [rec5]
  omega
theorem rec5_cell (x : En) : ∀ u ∈ rec5 x, u.oneCell' = true := by
 intro u hu
 simp only [rec5, List.mem_cons, List.not_mem_nil, or_false] at hu
 rcases hu with rfl | rfl | rfl | rfl | rfl <;> rfl
theorem recs_cell (L : List En) : ∀ u ∈ recs L, u.oneCell' = true := by
 intro u hu
 obtain ⟨x, _, hx⟩ := List.mem_flatMap.1 hu
 exact rec5_cell x u hx
theorem recs_at (L : List En) {j : Nat} (hj : j < L.length) : ∀ t u, (rec5 L[j])[t]? = some u → (recs L)[j * 5 + t]? = some u := by
 intro t u hu
 have hl : (recs (L.take j)).length = j * 5 := by
  rw [recs_len, List.length_take, Nat.min_eq_left (Nat.le_of_lt hj)]
 have ht := (List.getElem?_eq_some_iff.1 hu).1
 have e : recs L = recs (L.take j) ++ (rec5 L[j] ++ recs (L.drop (j + 1))) := by
  conv => lhs; rw [show L = L.take j ++ (L[j] :: L.drop (j + 1)) by simp]
  rw [recs_app]
  rfl
 rw [e, List.getElem?_append_right (by omega), List.getElem?_append_left (by rw [hl]; simp only [Nat.add_sub_cancel_left]; exact ht), hl, Nat.add_sub_cancel_left]
 exact hu
structure RVAt (w : World) (F : Nat → Prop) (g : Nat) (s : Va) (A : Option Addr) (c : Nat) (B : Option Addr) (d : Nat) : Prop where
 blk : Blk w g 40 #[.slice A s.L.length c, .slice B s.G.length d]
 row : w.ownsRow 0 210 5 (.slice A s.L.length c) s.L.length (recs s.L)
 gon : KRow w B d s.G
 Ag : ∀ b, A.map (·.block) = some b → b ≠ g ∧ F b ∧ B.map (·.block) ≠ some b
 Bg : ∀ b, B.map (·.block) = some b → b ≠ g ∧ F b
 Fg : F g
 F : ∀ j, F j → j < w.heap.size
def RVt (w : World) (F : Nat → Prop) (g : Nat) (s : Va) : Prop := ∃ A c B d, RVAt w F g s A c B d
section
variable {w w' : World} {F G : Nat → Prop} {g : Nat} {s : Va} {c d : Nat} {A B : Option Addr}
theorem RVAt.keep (h : RVAt w F g s A c B d) (hs : w.heap.size ≤ w'.heap.size) (hk : ∀ j, F j → w'.heap[j]? = w.heap[j]?) : RVAt w' F g s A c B d :=
 ⟨h.blk.keep (hk g h.Fg), own_keep h.row fun b hb => hk b (h.Ag b hb).2.1, h.gon.keep fun b hb => hk b (h.Bg b hb).2, h.Ag, h.Bg, h.Fg, fun j hj => Nat.lt_of_lt_of_le (h.F j hj) hs⟩
theorem RVAt.bel (h : RVAt w F g s A c B d) (hb : Below w.heap.size w w') : RVAt w' F g s A c B d := h.keep hb.size fun j hj => hb.block j (h.F j hj)
theorem RVAt.cells (h : RVAt w F g s A c B d) : w.cell? ⟨g, 0, none⟩ = some (.slice A s.L.length c) ∧ w.cell? ⟨g, 1, none⟩ = some (.slice B s.G.length d) := by
 have h0 := h.blk.cell 0
 have h1 := h.blk.cell 1
 simp at h0 h1
 exact ⟨h0, h1⟩
theorem RVAt.elem (h : RVAt w F g s A c B d) {j : Nat} (hj : j < s.L.length) : ∃ b, A = some ⟨b, 0, none⟩ ∧ b < w.heap.size ∧ w.rangeAt b (j * 5) (rec5 s.L[j]) := by
 obtain ⟨b, hA, hlt, hr⟩ := own_range h.row (by omega)
 exact ⟨b, hA, hlt, fun t u hu => by
  have := hr (j * 5 + t) u (recs_at s.L hj t u hu)
  rwa [Nat.zero_add] at this⟩
theorem RVt.keep (h : RVt w F g s) (hs : w.heap.size ≤ w'.heap.size) (hk : ∀ j, F j → w'.heap[j]? = w.heap[j]?) : RVt w' F g s := by
 obtain ⟨A, c, B, d, h⟩ := h
 exact ⟨A, c, B, d, h.keep hs hk⟩
theorem RVt.lt (h : RVt w F g s) : ∀ j, F j → j < w.heap.size := by
 obtain ⟨A, c, B, d, h⟩ := h
 exact h.F
theorem RVt.bel (h : RVt w F g s) (hb : Below w.heap.size w w') : RVt w' F g s := h.keep hb.size fun j hj => hb.block j (h.lt j hj)
def RVLeft (w w' : World) (F : Nat → Prop) (g : Nat) (s : Va) : Prop := ∃ F' : Nat → Prop, RVt w' F' g s ∧ Kp F w w' ∧ ∀ j, F' j → F j ∨ w.heap.size ≤ j
theorem RVLeft.same (h : RVt w F g s) (hb : Below w.heap.size w w') : RVLeft w w' F g s := ⟨F, h.bel hb, Kp.ofBelow hb, fun _ hj => .inl hj⟩
theorem RVLeft.after {w1 w2 : World} (hb : Below w.heap.size w w1) (h : RVLeft w1 w2 F g s) : RVLeft w w2 F g s := by
 obtain ⟨F2, hd, hk2, hF2⟩ := h
 exact ⟨F2, hd, (Kp.ofBelow hb).trans hk2, fun j hj => by
  rcases hF2 j hj with e | e
  · exact .inl e
  · exact .inr (Nat.le_trans hb.size e)⟩
end
theorem rgone_c (w : World) (F : Nat → Prop) (g : Nat) (s : Va) (h : RVt w F g s) (k : Ky) (hG : s.G.length ≤ 1000000) :
 Calls Tryz.prog 131 #[.pointer (some ⟨g, 0, none⟩), (.agg #[.int .i64 (k).t, .int .i64 (k).c, .int .i64 (k).e])] w fun e w' => e = .returned (.bool (decide (k ∈ s.G))) ∧ Below w.heap.size w w' := by
 obtain ⟨A, c, B, d, h⟩ := h
 have hb0 : Below w.heap.size w (w.alloc (.cells #[.int .i64 k.t, .int .i64 k.c, .int .i64 k.e] 54)) := (Below.refl _ _).alloc (nl _) _
 have hK0 := Blk.new w 54 #[.int .i64 k.t, .int .i64 k.c, .int .i64 k.e]
 have g1 := (h.bel hb0).cells.2
 have HH := hid h
 have HB0 := hid hb0
 have HK0 := hid hK0
 have HG := hid hG
 clear h hb0 hK0 hG
 go_enter Tryz.func131, Tryz.ntmps131
 go_wp2_with fail
 clear g1
 generalize hn : s.G.length = n at *
 have HNN := hid hn
 clear hn
 go_loopg [12] n (fun kk iv wr => ∃ (j : Nat), iv = .int .i64 (j : Int) ∧ Hid (kk = n - j) ∧ Hid (j ≤ n) ∧ Hid (Blk wr w.heap.size 54 #[.int .i64 k.t, .int .i64 k.c, .int .i64 k.e]) ∧ Hid (Below w.heap.size w wr) ∧ Hid (∀ i, ∀ hi : i < s.G.length, i < j → s.G[i] ≠ k))
 case atStart => exact ⟨0, rfl, hid (by omega), hid (Nat.zero_le _), HK0, HB0, hid (fun i _ hi => absurd hi (by omega))⟩
 case round =>
  obtain ⟨j, rfl, hgk, hj, hK, hB, hno⟩ := hrel
  clear HB0 HK0
  rcases Nat.lt_or_ge j n with hlt | hge
  · have HLT := hid hlt
    obtain ⟨b, rfl, hbl, hr0⟩ := (HH.out.bel hB.out).gon.elem (j := j) (by rw [HNN.out]; exact HLT.out)
    have HQR := hid hr0
    have j1 : (0 : Int) ≤ (j : Int) := by omega
    have j2 : (j : Int) < (n : Int) := by omega
    have j3 : decide ((j : Int) < (n : Int)) = true := by simpa using hlt
    have j4 : decide (j < n) = true := by simpa using hlt
    have wj : wrap64 ((j : Int) + 1) = ((j + 1 : Nat) : Int) := by have := HG.out; unfold wrap64; omega
    generalize hq : s.G[j]'(by rw [HNN.out]; exact HLT.out) = q at *
    have HQE := hid hq
    have hb2 : Below wr.heap.size wr (wr.alloc (.cells #[.int .i64 q.t, .int .i64 q.c, .int .i64 q.e] 54)) := (Below.refl _ _).alloc (nl _) _
    have hK2 := hK.out.keep (hb2.block w.heap.size hK.out.lt)
    obtain ⟨c0, c1, c2⟩ := blk_cells hK2
    have HK2 := hid hK2
    have HB2 := hid (hB.out.trans (hb2.mono hB.out.size))
    have heq := eq_key q k
    clear hr0 hbl hq hb2 hK2 hlt hK hB
    by_cases hqk : q = k
    · rw [decide_eq_true hqk] at heq
      have HE : Hid (decide (k ∈ s.G) = true) := hid (decide_eq_true (by rw [← hqk, ← HQE.out]; exact List.getElem_mem _))
      clear hqk
      as_aux_lemma =>
      go_wp2_with (refine wpList_load_mid rfl 54 _ rfl b (j * 3) rfl [.int .i64 q.t, .int .i64 q.c, .int .i64 q.e] _ HQR.out Tryz.underlying54 rfl Tryz.infoKey ?_)
      go_ret
      exact ⟨by rw [HE.out]; rfl, HB2.out⟩
    · rw [decide_eq_false hqk] at heq
      have HNO : Hid (∀ i, ∀ hi : i < s.G.length, i < j + 1 → s.G[i] ≠ k) := hid (fun i hi hij => by
       by_cases e : i = j
       · subst e; rw [HQE.out]; exact hqk
       · exact hno.out i hi (by omega))
      clear hqk
      as_aux_lemma =>
      go_wp2_with (refine wpList_load_mid rfl 54 _ rfl b (j * 3) rfl [.int .i64 q.t, .int .i64 q.c, .int .i64 q.e] _ HQR.out Tryz.underlying54 rfl Tryz.infoKey ?_)
      go_roundg (n - (j + 1))
      case measure => have := hgk.out; have := HLT.out; omega
      case rel => exact ⟨j + 1, congrArg (Value.int .i64) (by first | exact wj | omega | rfl), hid rfl, hid (by have := HLT.out; omega), HK2, HB2, HNO⟩
  · have j3 : decide ((j : Int) < (n : Int)) = false := by simp; omega
    have j4 : decide (j < n) = false := by simp; omega
    have HE : Hid (decide (k ∈ s.G) = false) := hid (decide_eq_false (fun e => by
     obtain ⟨i, hi, he⟩ := List.getElem_of_mem e
     exact hno.out i hi (by have := HNN.out; omega) he))
    clear hge hgk hj
    as_aux_lemma =>
    go_wp2
    go_ret
    exact ⟨by rw [HE.out]; rfl, hB.out⟩
theorem Tryz.infoEn : (Tryz.prog.info? 210).map (fun i => (i.zero, i.size, i.bytes)) = some (some (.agg #[.int .i64 0, .int .i64 0, .int .i64 0, .string ⟨#[]⟩, .string ⟨#[]⟩]), 5, 56) := by kernel_rfl
theorem Tryz.infoEn1 : (Tryz.prog.info? 210).map (·.size) = some 5 := by kernel_rfl
theorem opX_found {s : Va} {k : Ky} {b : List UInt8} {j : Nat} (hj : j < s.L.length) (h1 : s.L[j].k = k) (h2 : s.L[j].b = b) : opX s k b (j + 1) = some s.L[j].p := by
 unfold opX behind
 rw [if_neg (by omega), Nat.add_sub_cancel, List.getElem?_eq_getElem hj]
 show (if s.L[j].k = k ∧ s.L[j].b = b then some s.L[j].p else none) = _
 rw [if_pos ⟨h1, h2⟩]
theorem opX_none {s : Va} {k : Ky} {b : List UInt8} {hd : Nat} (h : ∀ i, ∀ hi : i < s.L.length, ¬ (i + 1 = hd ∧ s.L[i].k = k ∧ s.L[i].b = b)) : opX s k b hd = none := by
 unfold opX behind
 by_cases h0 : hd = 0
 · rw [if_pos h0]; rfl
 · rw [if_neg h0]
   obtain ⟨i, rfl⟩ : ∃ i, hd = i + 1 := ⟨hd - 1, by omega⟩
   rw [Nat.add_sub_cancel]
   by_cases hi : i < s.L.length
   · rw [List.getElem?_eq_getElem hi]
     show (if s.L[i].k = k ∧ s.L[i].b = b then some s.L[i].p else none) = _
     rw [if_neg (fun e => h i hi ⟨rfl, e⟩)]
   · rw [List.getElem?_eq_none (by omega)]
     rfl
theorem ropen_c (w : World) (F : Nat → Prop) (g : Nat) (s : Va) (h : RVt w F g s) (k : Ky) (b : List UInt8) (H : Int) (hd : Nat) (hH : H = (hd : Int)) (hG : s.G.length ≤ 1000000) (hL : s.L.length ≤ 1000000) :
 Calls Tryz.prog 110 #[.pointer (some ⟨g, 0, none⟩), (.agg #[.int .i64 (k).t, .int .i64 (k).c, .int .i64 (k).e]), .string (str b), .int .u64 H] w fun e w' => e = .returned (.tuple #[.string (str (opB s k b hd)), .int .i64 (opE s k b hd)]) ∧ Below w.heap.size w w' := by
 have hb0 : Below w.heap.size w (w.alloc (.cells #[.int .i64 k.t, .int .i64 k.c, .int .i64 k.e] 54)) := (Below.refl _ _).alloc (nl _) _
 have hK0 := Blk.new w 54 #[.int .i64 k.t, .int .i64 k.c, .int .i64 k.e]
 have hgo := rgone_c _ F g s (h.bel hb0) k hG
 obtain ⟨A, c, B, d, h⟩ := h
 have HH := hid h
 have HB0 := hid hb0
 have HK0 := hid hK0
 have HLL := hid hL
 obtain rfl := hH
 clear h hb0 hK0 hG hL
 by_cases hGG : k ∈ s.G
 · rw [decide_eq_true hGG] at hgo
   have HE : Hid (opE s k b hd = 50) := hid (if_pos hGG)
   have HO : Hid (opB s k b hd = []) := hid (if_pos hGG)
   rw [HE.out, HO.out]
   clear hGG HE HO
   go_enter Tryz.func110, Tryz.ntmps110
   go_wp2_with fail
   refine hgo.mono ?_
   rintro e w1 ⟨rfl, hb1⟩
   have HB1 := hid (HB0.out.trans (hb1.mono HB0.out.size))
   clear hgo hb1
   go_wp2
   go_ret2
   exact ⟨rfl, HB1.out⟩
 rw [decide_eq_false hGG] at hgo
 have HE : Hid (opE s k b hd = if (opX s k b hd).isSome then 0 else 51) := hid (if_neg hGG)
 have HO : Hid (opB s k b hd = (opX s k b hd).getD []) := hid (if_neg hGG)
 clear hGG
 go_enter Tryz.func110, Tryz.ntmps110
 go_wp2_with fail
 refine hgo.mono ?_
 rintro e w1 ⟨rfl, hb1⟩
 have HB1 := hid (HB0.out.trans (hb1.mono HB0.out.size))
 have HK1 := hid (HK0.out.keep (hb1.block w.heap.size HK0.out.lt))
 have g1 := (HH.out.bel HB1.out).cells.1
 clear hgo hb1 HB0 HK0
 generalize hn : s.L.length = n at *
 have HNN := hid hn
 clear hn
 go_wp2_with fail
 clear g1
 go_loopg [20] n (fun kk iv wr => ∃ (j : Nat), iv = .int .i64 (j : Int) ∧ Hid (kk = n - j) ∧ Hid (j ≤ n) ∧ Hid (Blk wr w.heap.size 54 #[.int .i64 k.t, .int .i64 k.c, .int .i64 k.e]) ∧ Hid (Below w.heap.size w wr) ∧ Hid (∀ i, ∀ hi : i < s.L.length, i < j → ¬ (i + 1 = hd ∧ s.L[i].k = k ∧ s.L[i].b = b)))
 case atStart => exact ⟨0, rfl, hid (by omega), hid (Nat.zero_le _), HK1, HB1, hid (fun i _ hi => absurd hi (by omega))⟩
 case round =>
 obtain ⟨j, rfl, hgk, hj, hK, hB, hno⟩ := hrel
 clear HB1 HK1
 rcases Nat.lt_or_ge j n with hlt | hge
 · have HLT := hid hlt
   obtain ⟨lb, rfl, hbl, hr0⟩ := (HH.out.bel hB.out).elem (j := j) (by rw [HNN.out]; exact HLT.out)
   have HQR := hid hr0
   have j1 : (0 : Int) ≤ (j : Int) := by omega
   have j2 : (j : Int) < (n : Int) := by omega
   have j3 : decide ((j : Int) < (n : Int)) = true := by simpa using hlt
   have j4 : decide (j < n) = true := by simpa using hlt
   have wj : wrap64 ((j : Int) + 1) = ((j + 1 : Nat) : Int) := by have := HLL.out; unfold wrap64; omega
   have wu1 : IntKind.u64.wrap (j : Int) = (j : Int) := wrapu (by omega) (by have := HLL.out; omega)
   have wu2 : IntKind.u64.wrap ((j : Int) + 1) = ((j + 1 : Nat) : Int) := by rw [wrapu (by omega) (by have := HLL.out; omega)]; rfl
   generalize hq : s.L[j]'(by rw [HNN.out]; exact HLT.out) = q at *
   have HQE := hid hq
   have hb2 : Below wr.heap.size wr (wr.alloc (.cells #[.int .i64 q.k.t, .int .i64 q.k.c, .int .i64 q.k.e, .string (str q.b), .string (str q.p)] 210)) := (Below.refl _ _).alloc (nl _) _
   have hK2 := hK.out.keep (hb2.block w.heap.size hK.out.lt)
   obtain ⟨c0, c1, c2⟩ := blk_cells hK2
   have HK2 := hid hK2
   have HB2 := hid (hB.out.trans (hb2.mono hB.out.size))
   have heq := eq_key q.k k
   clear hr0 hbl hq hb2 hK2 hlt hK hB
   have HNX : Hid (¬ (j + 1 = hd ∧ q.k = k ∧ q.b = b) → ∀ i, ∀ hi : i < s.L.length, i < j + 1 → ¬ (i + 1 = hd ∧ s.L[i].k = k ∧ s.L[i].b = b)) := hid (fun hne i hi hij => by
    by_cases e : i = j
    · subst e; rw [HQE.out]; exact hne
    · exact hno.out i hi (by omega))
   by_cases h1 : j + 1 = hd
   · subst h1
     by_cases h2 : q.k = k
     · rw [decide_eq_true h2] at heq
       by_cases h3 : q.b = b
       · have v5 : ((str q.b).toList == (str b).toList) = true := by rw [h3]; simp
         have HX : Hid (opX s k b (j + 1) = some q.p) := hid (by rw [← HQE.out]; exact opX_found (by rw [HNN.out]; exact HLT.out) (by rw [HQE.out]; exact h2) (by rw [HQE.out]; exact h3))
         clear h2 h3
         as_aux_lemma =>
         go_wp2_with (refine wpList_load_mid rfl 210 _ rfl lb (j * 5) rfl [.int .i64 q.k.t, .int .i64 q.k.c, .int .i64 q.k.e, .string (str q.b), .string (str q.p)] _ HQR.out Tryz.underlying210 rfl Tryz.infoEn1 ?_)
         go_ret2
         exact ⟨by rw [HE.out, HO.out, HX.out]; rfl, HB2.out⟩
       · have v5 := str_ne h3
         have HNO := hid (HNX.out (fun e => h3 e.2.2))
         clear h2 h3
         as_aux_lemma =>
         go_wp2_with (refine wpList_load_mid rfl 210 _ rfl lb (j * 5) rfl [.int .i64 q.k.t, .int .i64 q.k.c, .int .i64 q.k.e, .string (str q.b), .string (str q.p)] _ HQR.out Tryz.underlying210 rfl Tryz.infoEn1 ?_)
         go_roundg (n - (j + 1))
         case measure => have := hgk.out; have := HLT.out; omega
         case rel => exact ⟨j + 1, congrArg (Value.int .i64) (by first | exact wj | omega | rfl), hid rfl, hid (by have := HLT.out; omega), HK2, HB2, HNO⟩
     · rw [decide_eq_false h2] at heq
       have HNO := hid (HNX.out (fun e => h2 e.2.1))
       clear h2
       as_aux_lemma =>
       go_wp2_with (refine wpList_load_mid rfl 210 _ rfl lb (j * 5) rfl [.int .i64 q.k.t, .int .i64 q.k.c, .int .i64 q.k.e, .string (str q.b), .string (str q.p)] _ HQR.out Tryz.underlying210 rfl Tryz.infoEn1 ?_)
       go_roundg (n - (j + 1))
       case measure => have := hgk.out; have := HLT.out; omega
       case rel => exact ⟨j + 1, congrArg (Value.int .i64) (by first | exact wj | omega | rfl), hid rfl, hid (by have := HLT.out; omega), HK2, HB2, HNO⟩
   · obtain ⟨J, hJ⟩ : ∃ J : Nat, J = j + 1 := ⟨_, rfl⟩
     rw [← hJ] at wu2
     have e1 : ((J : Int) == (hd : Int)) = false := by simp; omega
     have e2 : decide ((J : Int) = (hd : Int)) = false := by simp; omega
     have e3 : (J == hd) = false := by simp; omega
     have e4 : decide (J = hd) = false := by simp; omega
     have e5 : ¬ J = hd := by omega
     have HJ := hid hJ
     clear hJ
     have HNO := hid (HNX.out (fun e => h1 e.1))
     clear h1
     as_aux_lemma =>
     go_wp2_with (refine wpList_load_mid rfl 210 _ rfl lb (j * 5) rfl [.int .i64 q.k.t, .int .i64 q.k.c, .int .i64 q.k.e, .string (str q.b), .string (str q.p)] _ HQR.out Tryz.underlying210 rfl Tryz.infoEn1 ?_)
     go_roundg (n - (j + 1))
     case measure => have := hgk.out; have := HLT.out; omega
     case rel => exact ⟨j + 1, congrArg (Value.int .i64) (by first | exact wj | omega | rfl), hid rfl, hid (by have := HLT.out; omega), HK2, HB2, HNO⟩
 · have j3 : decide ((j : Int) < (n : Int)) = false := by simp; omega
   have j4 : decide (j < n) = false := by simp; omega
   have HX : Hid (opX s k b hd = none) := hid (opX_none fun i hi => hno.out i hi (by have := HNN.out; omega))
   clear hge hgk hj
   as_aux_lemma =>
   go_wp2
   go_ret2
   exact ⟨by rw [HE.out, HO.out, HX.out]; rfl, hB.out⟩
theorem RVAt.sealed {w w5 : World} {F : Nat → Prop} {g : Nat} {s : Va} {A : Option Addr} {c : Nat} {B : Option Addr} {d : Nat} (h : RVAt w F g s A c B d) (x : En) (hb : Below w.heap.size w w5) {A5 : Option Addr} {c5 : Nat}
 (ho : w5.ownsRow w.heap.size 210 5 (.slice A5 (s.L.length + 1) c5) (s.L.length + 1) (recs s.L ++ rec5 x)) :
 RVLeft w (w5.setCell ⟨g, 0, none⟩ (.slice A5 (s.L.length + 1) c5)) F g ⟨s.L ++ [x], s.G⟩ := by
 have hg6 := grown_setCell w5 g 0 (.slice A5 (s.L.length + 1) c5)
 have s5 := hb.size
 have s6 := hg6.size
 have lg := h.F g h.Fg
 have k6 : ∀ j, j < w5.heap.size → j ≠ g → (w5.setCell ⟨g, 0, none⟩ (.slice A5 (s.L.length + 1) c5)).heap[j]? = w5.heap[j]? := fun j hj hne => hg6.block j hj (fun e => hne (by injection e))
 refine ⟨fun j => (F j ∨ w.heap.size ≤ j) ∧ j < w5.heap.size, ⟨A5, c5, B, d, ?_, ?_, ?_, fun b hb' => ?_, fun b hb' => ?_, ⟨.inl h.Fg, by omega⟩, fun j hj => by have := hj.2; omega⟩, ?_, fun j hj => hj.1⟩
 · show Blk _ g _ #[.slice A5 (s.L ++ [x]).length c5, _]
   rw [List.length_append]
   exact (h.blk.keep (hb.block g lg)).store 0 (.slice A5 (s.L.length + 1) c5)
 · show World.ownsRow _ 0 _ 5 (.slice A5 (s.L ++ [x]).length c5) (s.L ++ [x]).length (recs (s.L ++ [x]))
   rw [List.length_append, recs_app, recs_one]
   exact own_keep (own_lower ho (Nat.zero_le _)) fun b hb' => k6 b (own_lt ho b hb') (by have := own_ge ho b hb'; omega)
 · exact h.gon.keep fun b hb' => by
    have := h.F b (h.Bg b hb').2
    exact (k6 b (by omega) (h.Bg b hb').1).trans (hb.block b this)
 · have h1 := own_ge ho b hb'
   have h2 := own_lt ho b hb'
   exact ⟨by omega, ⟨.inr h1, h2⟩, fun e => by have := h.F b (h.Bg b e).2; omega⟩
 · have := h.F b (h.Bg b hb').2
   exact ⟨(h.Bg b hb').1, .inl (h.Bg b hb').2, by omega⟩
 · exact ⟨hg6.os.trans hb.os, hg6.tape.trans hb.tape, hg6.output.trans hb.output, by omega, fun j hj hF =>
    (k6 j (by omega) (fun e => hF (e ▸ h.Fg))).trans (hb.block j hj)⟩
theorem built_en (k : Ky) (s p : ByteArray) : Tryz.prog.built 210 [(0, (.agg #[.int .i64 (k).t, .int .i64 (k).c, .int .i64 (k).e])), (1, .string s), (2, .string p)] = some #[.int .i64 k.t, .int .i64 k.c, .int .i64 k.e, .string s, .string p] := by kernel_rfl
theorem filled_en (k : Ky) (s p : ByteArray) : Instr.fill (fun j => some (j * 5, 5)) ((Array.range (1 * 5)).map ((#[.int .i64 0, .int .i64 0, .int .i64 0, .string ⟨#[]⟩, .string ⟨#[]⟩] : Array Value)[· % 5]!)) [(0, .agg #[.int .i64 k.t, .int .i64 k.c, .int .i64 k.e, .string s, .string p])] = some #[.int .i64 k.t, .int .i64 k.c, .int .i64 k.e, .string s, .string p] := by kernel_rfl
theorem Tryz.isInfoEn : (Tryz.prog.info? 210).isSome = true := by kernel_rfl
theorem rseal_c (w : World) (F : Nat → Prop) (g : Nat) (s : Va) (h : RVt w F g s) (k : Ky) (b p : List UInt8) (hG : s.G.length ≤ 1000000) (hL : s.L.length ≤ 1000000) :
 Calls Tryz.prog 97 #[.pointer (some ⟨g, 0, none⟩), (.agg #[.int .i64 (k).t, .int .i64 (k).c, .int .i64 (k).e]), .string (str b), .string (str p)] w fun e w' => e = .returned (.tuple #[.int .u64 (seH s k p.length : Int), .int .i64 (seE s k p.length)]) ∧ RVLeft w w' F g (seS s k b p) := by
 have hb0 : Below w.heap.size w (w.alloc (.cells #[.int .i64 k.t, .int .i64 k.c, .int .i64 k.e] 54)) := (Below.refl _ _).alloc (nl _) _
 have hK0 := Blk.new w 54 #[.int .i64 k.t, .int .i64 k.c, .int .i64 k.e]
 have hgo := rgone_c _ F g s (h.bel hb0) k hG
 obtain ⟨A, c, B, d, h⟩ := h
 have HH := hid h
 have HB0 := hid hb0
 have HK0 := hid hK0
 have HLL := hid hL
 have hps : (str p).size = p.length := str_size p
 clear h hb0 hK0 hG hL
 by_cases hbad : ¬ k.right ∨ 65536 < p.length
 · have HE : Hid (seE s k p.length = 2) := hid (if_pos hbad)
   have HHd : Hid (seH s k p.length = 0) := hid (if_pos hbad)
   have HS : Hid (seS s k b p = s) := hid (if_pos hbad)
   rw [HE.out, HHd.out, HS.out]
   clear HE HHd HS hgo
   go_enter Tryz.func97, Tryz.ntmps97
   by_cases h1 : k.t < 0
   · have e1 : decide (k.t < 0) = true := by simpa using h1
     clear h1 hbad
     as_aux_lemma =>
     go_wp2
     go_ret2
     exact ⟨rfl, RVLeft.same ⟨A, c, B, d, HH.out⟩ HB0.out⟩
   have e1 : decide (k.t < 0) = false := by simpa using h1
   by_cases h2 : k.c < 0
   · have e2 : decide (k.c < 0) = true := by simpa using h2
     clear h1 h2 hbad
     as_aux_lemma =>
     go_wp2
     go_ret2
     exact ⟨rfl, RVLeft.same ⟨A, c, B, d, HH.out⟩ HB0.out⟩
   have e2 : decide (k.c < 0) = false := by simpa using h2
   by_cases h3 : k.e < 0
   · have e3 : decide (k.e < 0) = true := by simpa using h3
     clear h1 h2 h3 hbad
     as_aux_lemma =>
     go_wp2
     go_ret2
     exact ⟨rfl, RVLeft.same ⟨A, c, B, d, HH.out⟩ HB0.out⟩
   have e3 : decide (k.e < 0) = false := by simpa using h3
   have hlen : 65536 < p.length := by
    rcases hbad with hb | hb
    · exact absurd (show k.right from ⟨by omega, by omega, by omega⟩) hb
    · exact hb
   have e4 : decide ((65536 : Int) < (p.length : Int)) = true := by simp; omega
   have e5 : decide (65536 < p.length) = true := by simpa using hlen
   clear h1 h2 h3 hbad hlen
   as_aux_lemma =>
   go_wp2
   go_ret2
   exact ⟨rfl, RVLeft.same ⟨A, c, B, d, HH.out⟩ HB0.out⟩
 have hr : k.right := Classical.byContradiction fun e => hbad (.inl e)
 have e1 : decide (k.t < 0) = false := by have := hr.1; simp; omega
 have e2 : decide (k.c < 0) = false := by have := hr.2.1; simp; omega
 have e3 : decide (k.e < 0) = false := by have := hr.2.2; simp; omega
 have e4 : decide ((65536 : Int) < (p.length : Int)) = false := by simp; omega
 have e5 : decide (65536 < p.length) = false := by simp; omega
 obtain ⟨c0, c1, c2⟩ := blk_cells HK0.out
 by_cases hGG : k ∈ s.G
 · have HE : Hid (seE s k p.length = 50) := hid ((if_neg hbad).trans (if_pos hGG))
   have HHd : Hid (seH s k p.length = 0) := hid ((if_neg hbad).trans (if_pos hGG))
   have HS : Hid (seS s k b p = s) := hid ((if_neg hbad).trans (if_pos hGG))
   rw [HE.out, HHd.out, HS.out]
   rw [decide_eq_true hGG] at hgo
   clear HE HHd HS hbad hr hGG
   go_enter Tryz.func97, Tryz.ntmps97
   go_wp2_with fail
   refine hgo.mono ?_
   rintro e w1 ⟨rfl, hb1⟩
   have HB1 := hid (HB0.out.trans (hb1.mono HB0.out.size))
   clear hgo hb1
   go_wp2
   go_ret2
   exact ⟨rfl, RVLeft.same ⟨A, c, B, d, HH.out⟩ HB1.out⟩
 have HE : Hid (seE s k p.length = 0) := hid ((if_neg hbad).trans (if_neg hGG))
 have HHd : Hid (seH s k p.length = s.L.length + 1) := hid ((if_neg hbad).trans (if_neg hGG))
 have HS : Hid (seS s k b p = ⟨s.L ++ [⟨k, b, p⟩], s.G⟩) := hid ((if_neg hbad).trans (if_neg hGG))
 rw [HE.out, HHd.out, HS.out]
 rw [decide_eq_false hGG] at hgo
 have wu : IntKind.u64.wrap ((s.L.length + 1 : Nat) : Int) = ((s.L.length + 1 : Nat) : Int) := wrapu (by omega) (by have := HLL.out; omega)
 clear HE HHd HS hbad hr hGG
 generalize hNN : s.L.length + 1 = NN at *
 have HNN := hid hNN
 clear hNN
 go_enter Tryz.func97, Tryz.ntmps97
 go_wp2_with fail
 refine hgo.mono ?_
 rintro e w2 ⟨rfl, hb1⟩
 have HBW := hid (HB0.out.trans (hb1.mono HB0.out.size))
 have HV2 := hid (HH.out.bel HBW.out)
 have HK2 := hid (HK0.out.keep (hb1.block w.heap.size HK0.out.lt))
 have HKW : Hid (w.heap.size < w2.heap.size) := hid HK2.out.lt
 have HGW : Hid (g < w.heap.size) := hid (HH.out.F g HH.out.Fg)
 have HGV : Hid (g < w2.heap.size) := hid (by have := HGW.out; have := HKW.out; omega)
 have yd := HV2.out.cells.1
 clear hgo hb1 HB0 HK0 HH c0 c1 c2 e1 e2 e3 e4 e5 hps
 go_wp2_with fail
 refine wp_region_held_drew (S := fun wx => wx.heap[w.heap.size]? = w2.heap[w.heap.size]?) (by kernel_rfl) rfl (fun HS => ?_)
 have HBs : Hid (Below w2.heap.size w2 w2.drew) := hid (Below.refl _ _).drew
 refine qT 0 ?v0 ?y0 HS ?r0
 case y0 => refine qI fun wS hSw => ?_; go_simp; try with_reducible rfl
 try simp only [Act.put, zA]
 refine qT 2 ?v2 ?y2 HS ?r2
 case y2 => refine qI fun wS hSw => ?_; go_simp; try with_reducible rfl
 try simp only [Act.put, zA]
 refine qT 3 ?v3 ?y3 HS ?r3
 case y3 => refine qI fun wS hSw => ?_; go_simp; try with_reducible rfl
 try simp only [Act.put, zA]
 refine qT 4 ?v4 ?y4 HS ?r4
 case y4 => refine qI fun wS hSw => ?_; go_simp; try with_reducible rfl
 try simp only [Act.put, zA]
 refine qT 7 ?v7 ?y7 HS ?r7
 case y7 =>
  refine qI fun wS hSw => ?_
  have hKS := HK2.out.keep hSw
  obtain ⟨c0, c1, c2⟩ := blk_cells hKS
  go_simp
  try with_reducible rfl
 try simp only [Act.put, zA]
 refine qT 8 ?v8 ?y8 HS ?r8
 case y8 => refine qI fun wS hSw => ?_; go_simp; try with_reducible rfl
 try simp only [Act.put, zA]
 refine qT 9 ?v9 ?y9 HS ?r9
 case y9 => refine qI fun wS hSw => ?_; go_simp; try with_reducible rfl
 try simp only [Act.put, zA]
 refine qT 10 ?v10 ?y10 HS ?r10
 case y10 =>
  refine qI fun wS hSw => ?_
  refine Eq.trans (exec_build 210 #[(0, .tmp 38), (1, .tmp 39), (2, .tmp 40)] ?_ #[(0, (.agg #[.int .i64 (k).t, .int .i64 (k).c, .int .i64 (k).e])), (1, .string (str b)), (2, .string (str p))] ?_ _ (built_en k (str b) (str p))) ?_
  · rfl
  · simp only [List.map_toArray, List.map_cons, List.map_nil]; rfl
  · with_reducible rfl
 try simp only [Act.put, zA]
 refine wpAnyH_ready (rs := [1, 5, 11]) (by kernel_rfl) (by simp) ?_
 refine (AllReadyH.cons (o := ?oz1) ?hoz1 (fun K hK => ?stepz1) (AllReadyH.cons (o := ?oz5) ?hoz5 (fun K hK => ?stepz5) (AllReadyH.cons (o := ?oz11) ?hoz11 (fun K hK => ?stepz11) AllReadyH.nil)))
 case hoz1 => simp only [zD, zE, zF]; exact rfl
 case hoz5 => simp only [zD, zE, zF]; exact rfl
 case hoz11 => simp only [zD, zE, zF]; exact rfl
 case stepz1 =>
  rw [if_pos (by rfl)]
  refine wp_buildSlice0 37 210 rfl Tryz.underlying37 Tryz.isInfoEn ?_
  have HB1 : Hid (Below w2.heap.size w2 (w2.drew.alloc (.cells #[] 210))) := hid (HBs.out.alloc HBs.out.size _)
  have HR1 : Hid ((w2.drew.alloc (.cells #[] 210)).ownsRow w2.heap.size 210 5 (.slice (some ⟨w2.drew.heap.size, 0, none⟩) 0 0) 0 []) := hid (own_empty _ _ _ _ HBs.out.size)
  generalize hr1 : w2.drew.heap.size = r1 at *
  clear hr1
  generalize hw1 : w2.drew.alloc (.cells #[] 210) = wx1 at *
  clear hw1
  refine hK.out _ _ (HB1.out.block w.heap.size HKW.out) (fun HS => ?_)
  clear hK K
  try simp only [Act.put, zA]
  refine wpAnyH_ready (rs := [5, 11]) (by kernel_rfl) (by simp) ?_
  refine (AllReadyH.cons (o := ?ozb5) ?hozb5 (fun K hK => ?stepzb5) (AllReadyH.cons (o := ?ozb11) ?hozb11 (fun K hK => ?stepzb11) AllReadyH.nil))
  case hozb5 => simp only [zD, zE, zF]; exact rfl
  case hozb11 => simp only [zD, zE, zF]; exact rfl
  case stepzb5 =>
   rw [if_pos (by rfl)]
   refine wp_load_slice 37 (.tmp 35) rfl 210 Tryz.underlying37 g 0 rfl _ ((World.cell?_of_block (HB1.out.block g HGV.out)).trans yd) ?_
   refine hK.out _ _ (HB1.out.block w.heap.size HKW.out) (fun HS => ?_)
   clear hK K
   try simp only [Act.put, zA]
   refine wpAnyH_ready (rs := [6, 11]) (by kernel_rfl) (by simp) ?_
   refine (AllReadyH.cons (o := ?ozbf6) ?hozbf6 (fun K hK => ?stepzbf6) (AllReadyH.cons (o := ?ozbf11) ?hozbf11 (fun K hK => ?stepzbf11) AllReadyH.nil))
   case hozbf6 => simp only [zD, zE, zF]; exact rfl
   case hozbf11 => simp only [zD, zE, zF]; exact rfl
   case stepzbf6 =>
    rw [if_pos (by rfl)]
    obtain ⟨A2, c2, wx2, hrun2, hgr2⟩ := run_append_L (P := Tryz.prog) wx1 37 37 210 _ 5 56 Tryz.underlying37 Tryz.infoEn rfl (by decide) w2.heap.size (some ⟨r1, 0, none⟩) 0 0 [] HR1.out A s.L.length c (recs s.L) (recs_len _) (fun h0 => by obtain ⟨lb, hA, hlt, hrr⟩ := own_range HV2.out.row h0; exact ⟨lb, 0, hA, rangeAt_keep hrr (HB1.out.block lb hlt)⟩) (recs_cell _) (by have := HLL.out; omega) (by have := HLL.out; unfold maxLen; omega) HB1.out.size
    rw [Nat.zero_add, List.nil_append] at hgr2
    rw [Nat.zero_add] at hrun2
    refine wp_append_run 37 _ _ rfl _ _ _ rfl rfl hrun2 ?_
    have HR2 : Hid (wx2.ownsRow w2.heap.size 210 5 (.slice A2 s.L.length c2) s.L.length (recs s.L)) := hid hgr2.1
    have HB2 : Hid (Below w2.heap.size w2 wx2) := hid (HB1.out.grown hgr2.2.2.1 HB1.out.size (fun d hd => by injection hd with hd; have := own_ge HR1.out r1 rfl; have hd : r1 = d := hd; omega))
    clear hrun2 hgr2
    refine hK.out _ _ (HB2.out.block w.heap.size HKW.out) (fun HS => ?_)
    clear hK K
    try simp only [Act.put, zA]
    refine qR 11 fun K hK => ?_
    rw [if_pos (by rfl)]
    obtain ⟨ie, hie, hz0, hz1, hz2⟩ := info_parts Tryz.infoEn
    refine wp_buildSlice 37 210 1 _ rfl #[.int .i64 k.t, .int .i64 k.c, .int .i64 k.e, .string (str b), .string (str p)] ie _ Tryz.underlying37 hie hz0 (by rw [hz1]; decide) (by rw [hz1]; decide) (by rw [hz1]; simp only [List.map_toArray, List.map_cons, List.map_nil]; exact filled_en k (str b) (str p)) ?_
    clear hie hz0 hz1 hz2
    have HB3 : Hid (Below w2.heap.size w2 (wx2.alloc (.cells #[.int .i64 k.t, .int .i64 k.c, .int .i64 k.e, .string (str b), .string (str p)] 210))) := hid (HB2.out.alloc HB2.out.size _)
    have HQ3 : Hid (Blk (wx2.alloc (.cells #[.int .i64 k.t, .int .i64 k.c, .int .i64 k.e, .string (str b), .string (str p)] 210)) wx2.heap.size 210 #[.int .i64 k.t, .int .i64 k.c, .int .i64 k.e, .string (str b), .string (str p)]) := hid (Blk.new wx2 210 #[.int .i64 k.t, .int .i64 k.c, .int .i64 k.e, .string (str b), .string (str p)])
    have HR3 : Hid ((wx2.alloc (.cells #[.int .i64 k.t, .int .i64 k.c, .int .i64 k.e, .string (str b), .string (str p)] 210)).ownsRow w2.heap.size 210 5 (.slice A2 s.L.length c2) s.L.length (recs s.L)) := hid (own_keep HR2.out fun d hd => ((Below.refl _ _).alloc (nl _) _).block d (own_lt HR2.out d hd))
    have HD3 : Hid (∀ d, A2.map (·.block) = some d → d ≠ wx2.heap.size) := hid (fun d hd => by have := own_lt HR2.out d hd; omega)
    generalize hq3 : wx2.heap.size = q3 at *
    clear hq3
    generalize hw3 : wx2.alloc (.cells #[.int .i64 k.t, .int .i64 k.c, .int .i64 k.e, .string (str b), .string (str p)] 210) = wx3 at *
    clear hw3
    refine hK.out _ _ (HB3.out.block w.heap.size HKW.out) (fun HS => ?_)
    clear hK K
    try simp only [Act.put, zA]
    refine qR 12 fun K hK => ?_
    rw [if_pos (by rfl)]
    obtain ⟨A4, c4, w5, hrun4, hgr4⟩ := run_append_L (P := Tryz.prog) wx3 37 37 210 _ 5 56 Tryz.underlying37 Tryz.infoEn rfl (by decide) w2.heap.size A2 s.L.length c2 (recs s.L) HR3.out (some ⟨q3, 0, none⟩) 1 1 (rec5 (⟨k, b, p⟩ : En)) rfl (fun _ => ⟨q3, 0, rfl, fun j v hv => by rw [HQ3.out.cell, Nat.zero_add, List.getElem?_toArray]; exact hv⟩) (rec5_cell _) (by have := HLL.out; omega) (by have := HLL.out; unfold maxLen; omega) HB3.out.size
    have HB5 : Hid (Below w2.heap.size w2 w5) := hid (HB3.out.grown hgr4.2.2.1 HB3.out.size (fun d hd => own_ge HR3.out d hd))
    have HL5 := hid (RVAt.sealed HV2.out (⟨k, b, p⟩ : En) HB5.out hgr4.1)
    rw [HNN.out] at HL5 hrun4
    refine wp_append_run 37 _ _ rfl _ _ _ rfl rfl hrun4 ?_
    have eg5 := HB5.out.block g HGV.out
    have f5 := (HV2.out.blk.keep eg5).frozen 0
    have u0 := (HV2.out.blk.keep eg5).cell 0
    simp only [zD, zF] at u0
    have HV0 : Hid ((w5.setCell ⟨g, 0, none⟩ (.slice A4 NN c4)).cell? ⟨g, 0, none⟩ = some (.slice A4 NN c4)) := hid (by simpa using ((HV2.out.blk.keep eg5).store 0 (.slice A4 NN c4)).cell 0)
    clear hrun4 hgr4 eg5
    refine hK.out _ _ (HB5.out.block w.heap.size HKW.out) (fun HS => ?_)
    clear hK K
    try simp only [Act.put, zA]
    refine qT 13 ?vzbfgl13 ?yzbfgl13 HS ?rzbfgl13
    case yzbfgl13 => refine qI fun wS hSw => ?_; go_simp; try with_reducible rfl
    try simp only [Act.put, zA]
    refine qT 14 ?vzbfgl14 ?yzbfgl14 HS ?rzbfgl14
    case yzbfgl14 => refine qI fun wS hSw => ?_; go_simp; try with_reducible rfl
    try simp only [Act.put, zA]
    refine qR 15 fun K hK => ?_
    go_simp
    refine hK.out _ _ ((Below.heap_setCell w5 ⟨g, 0, none⟩ _ w.heap.size (fun e => by have e' : w.heap.size = g := e; have := HGW.out; omega)).trans (HB5.out.block w.heap.size HKW.out)) (fun HS => ?_)
    clear hK K
    try simp only [Act.put]
    refine qD ?_
    clear HS u0 f5
    have v0 := HV0.out
    go_wp2
    go_ret2
    exact ⟨rfl, RVLeft.after HBW.out HL5.out⟩
   case stepzbf11 =>
    rw [if_pos (by rfl)]
    obtain ⟨ie, hie, hz0, hz1, hz2⟩ := info_parts Tryz.infoEn
    refine wp_buildSlice 37 210 1 _ rfl #[.int .i64 k.t, .int .i64 k.c, .int .i64 k.e, .string (str b), .string (str p)] ie _ Tryz.underlying37 hie hz0 (by rw [hz1]; decide) (by rw [hz1]; decide) (by rw [hz1]; simp only [List.map_toArray, List.map_cons, List.map_nil]; exact filled_en k (str b) (str p)) ?_
    clear hie hz0 hz1 hz2
    have HB5 : Hid (Below w2.heap.size w2 (wx1.alloc (.cells #[.int .i64 k.t, .int .i64 k.c, .int .i64 k.e, .string (str b), .string (str p)] 210))) := hid (HB1.out.alloc HB1.out.size _)
    have HQ5 : Hid (Blk (wx1.alloc (.cells #[.int .i64 k.t, .int .i64 k.c, .int .i64 k.e, .string (str b), .string (str p)] 210)) wx1.heap.size 210 #[.int .i64 k.t, .int .i64 k.c, .int .i64 k.e, .string (str b), .string (str p)]) := hid (Blk.new wx1 210 #[.int .i64 k.t, .int .i64 k.c, .int .i64 k.e, .string (str b), .string (str p)])
    have HR5 : Hid ((wx1.alloc (.cells #[.int .i64 k.t, .int .i64 k.c, .int .i64 k.e, .string (str b), .string (str p)] 210)).ownsRow w2.heap.size 210 5 (.slice (some ⟨r1, 0, none⟩) 0 0) 0 []) := hid (own_keep HR1.out fun d hd => ((Below.refl _ _).alloc (nl _) _).block d (own_lt HR1.out d hd))
    have HD5 : Hid (r1 ≠ wx1.heap.size) := hid (by have := own_lt HR1.out r1 rfl; omega)
    generalize hq5 : wx1.heap.size = q5 at *
    clear hq5
    generalize hw5 : wx1.alloc (.cells #[.int .i64 k.t, .int .i64 k.c, .int .i64 k.e, .string (str b), .string (str p)] 210) = wx5 at *
    clear hw5
    refine hK.out _ _ (HB5.out.block w.heap.size HKW.out) (fun HS => ?_)
    clear hK K
    try simp only [Act.put, zA]
    refine qR 6 fun K hK => ?_
    rw [if_pos (by rfl)]
    obtain ⟨A6, c6, wx6, hrun6, hgr6⟩ := run_append_L (P := Tryz.prog) wx5 37 37 210 _ 5 56 Tryz.underlying37 Tryz.infoEn rfl (by decide) w2.heap.size (some ⟨r1, 0, none⟩) 0 0 [] HR5.out A s.L.length c (recs s.L) (recs_len _) (fun h0 => by obtain ⟨lb, hA, hlt, hrr⟩ := own_range HV2.out.row h0; exact ⟨lb, 0, hA, rangeAt_keep hrr (HB5.out.block lb hlt)⟩) (recs_cell _) (by have := HLL.out; omega) (by have := HLL.out; unfold maxLen; omega) HB5.out.size
    rw [Nat.zero_add, List.nil_append] at hgr6
    rw [Nat.zero_add] at hrun6
    refine wp_append_run 37 _ _ rfl _ _ _ rfl rfl hrun6 ?_
    have HR6 : Hid (wx6.ownsRow w2.heap.size 210 5 (.slice A6 s.L.length c6) s.L.length (recs s.L)) := hid hgr6.1
    have HB6 : Hid (Below w2.heap.size w2 wx6) := hid (HB5.out.grown hgr6.2.2.1 HB5.out.size (fun d hd => by injection hd with hd; have := own_ge HR5.out r1 rfl; have hd : r1 = d := hd; omega))
    have HQ6 : Hid (Blk wx6 q5 210 #[.int .i64 k.t, .int .i64 k.c, .int .i64 k.e, .string (str b), .string (str p)]) := hid (HQ5.out.keep (hgr6.2.2.1.block _ HQ5.out.lt (fun e => by injection e with e; exact HD5.out e.symm)))
    have HD6 : Hid (∀ d, A6.map (·.block) = some d → d ≠ q5) := hid (fun d hd => by
     have := HQ5.out.lt
     rcases hgr6.2.2.2 d hd with e | e
     · injection e with e; exact fun e2 => HD5.out (e.trans e2)
     · omega)
    clear hrun6 hgr6
    refine hK.out _ _ (HB6.out.block w.heap.size HKW.out) (fun HS => ?_)
    clear hK K
    try simp only [Act.put, zA]
    refine qR 12 fun K hK => ?_
    rw [if_pos (by rfl)]
    obtain ⟨A7, c7, w5, hrun7, hgr7⟩ := run_append_L (P := Tryz.prog) wx6 37 37 210 _ 5 56 Tryz.underlying37 Tryz.infoEn rfl (by decide) w2.heap.size A6 s.L.length c6 (recs s.L) HR6.out (some ⟨q5, 0, none⟩) 1 1 (rec5 (⟨k, b, p⟩ : En)) rfl (fun _ => ⟨q5, 0, rfl, fun j v hv => by rw [HQ6.out.cell, Nat.zero_add, List.getElem?_toArray]; exact hv⟩) (rec5_cell _) (by have := HLL.out; omega) (by have := HLL.out; unfold maxLen; omega) HB6.out.size
    have HB5 : Hid (Below w2.heap.size w2 w5) := hid (HB6.out.grown hgr7.2.2.1 HB6.out.size (fun d hd => own_ge HR6.out d hd))
    have HL5 := hid (RVAt.sealed HV2.out (⟨k, b, p⟩ : En) HB5.out hgr7.1)
    rw [HNN.out] at HL5 hrun7
    refine wp_append_run 37 _ _ rfl _ _ _ rfl rfl hrun7 ?_
    have eg5 := HB5.out.block g HGV.out
    have f5 := (HV2.out.blk.keep eg5).frozen 0
    have u0 := (HV2.out.blk.keep eg5).cell 0
    simp only [zD, zF] at u0
    have HV0 : Hid ((w5.setCell ⟨g, 0, none⟩ (.slice A7 NN c7)).cell? ⟨g, 0, none⟩ = some (.slice A7 NN c7)) := hid (by simpa using ((HV2.out.blk.keep eg5).store 0 (.slice A7 NN c7)).cell 0)
    clear hrun7 hgr7 eg5
    refine hK.out _ _ (HB5.out.block w.heap.size HKW.out) (fun HS => ?_)
    clear hK K
    try simp only [Act.put, zA]
    refine qT 13 ?vzbflg13 ?yzbflg13 HS ?rzbflg13
    case yzbflg13 => refine qI fun wS hSw => ?_; go_simp; try with_reducible rfl
    try simp only [Act.put, zA]
    refine qT 14 ?vzbflg14 ?yzbflg14 HS ?rzbflg14
    case yzbflg14 => refine qI fun wS hSw => ?_; go_simp; try with_reducible rfl
    try simp only [Act.put, zA]
    refine qR 15 fun K hK => ?_
    go_simp
    refine hK.out _ _ ((Below.heap_setCell w5 ⟨g, 0, none⟩ _ w.heap.size (fun e => by have e' : w.heap.size = g := e; have := HGW.out; omega)).trans (HB5.out.block w.heap.size HKW.out)) (fun HS => ?_)
    clear hK K
    try simp only [Act.put]
    refine qD ?_
    clear HS u0 f5
    have v0 := HV0.out
    go_wp2
    go_ret2
    exact ⟨rfl, RVLeft.after HBW.out HL5.out⟩
  case stepzb11 =>
   rw [if_pos (by rfl)]
   obtain ⟨ie, hie, hz0, hz1, hz2⟩ := info_parts Tryz.infoEn
   refine wp_buildSlice 37 210 1 _ rfl #[.int .i64 k.t, .int .i64 k.c, .int .i64 k.e, .string (str b), .string (str p)] ie _ Tryz.underlying37 hie hz0 (by rw [hz1]; decide) (by rw [hz1]; decide) (by rw [hz1]; simp only [List.map_toArray, List.map_cons, List.map_nil]; exact filled_en k (str b) (str p)) ?_
   clear hie hz0 hz1 hz2
   have HB8 : Hid (Below w2.heap.size w2 (wx1.alloc (.cells #[.int .i64 k.t, .int .i64 k.c, .int .i64 k.e, .string (str b), .string (str p)] 210))) := hid (HB1.out.alloc HB1.out.size _)
   have HQ8 : Hid (Blk (wx1.alloc (.cells #[.int .i64 k.t, .int .i64 k.c, .int .i64 k.e, .string (str b), .string (str p)] 210)) wx1.heap.size 210 #[.int .i64 k.t, .int .i64 k.c, .int .i64 k.e, .string (str b), .string (str p)]) := hid (Blk.new wx1 210 #[.int .i64 k.t, .int .i64 k.c, .int .i64 k.e, .string (str b), .string (str p)])
   have HR8 : Hid ((wx1.alloc (.cells #[.int .i64 k.t, .int .i64 k.c, .int .i64 k.e, .string (str b), .string (str p)] 210)).ownsRow w2.heap.size 210 5 (.slice (some ⟨r1, 0, none⟩) 0 0) 0 []) := hid (own_keep HR1.out fun d hd => ((Below.refl _ _).alloc (nl _) _).block d (own_lt HR1.out d hd))
   have HD8 : Hid (r1 ≠ wx1.heap.size) := hid (by have := own_lt HR1.out r1 rfl; omega)
   generalize hq8 : wx1.heap.size = q8 at *
   clear hq8
   generalize hw8 : wx1.alloc (.cells #[.int .i64 k.t, .int .i64 k.c, .int .i64 k.e, .string (str b), .string (str p)] 210) = wx8 at *
   clear hw8
   refine hK.out _ _ (HB8.out.block w.heap.size HKW.out) (fun HS => ?_)
   clear hK K
   try simp only [Act.put, zA]
   refine qR 5 fun K hK => ?_
   rw [if_pos (by rfl)]
   refine wp_load_slice 37 (.tmp 35) rfl 210 Tryz.underlying37 g 0 rfl _ ((World.cell?_of_block (HB8.out.block g HGV.out)).trans yd) ?_
   refine hK.out _ _ (HB8.out.block w.heap.size HKW.out) (fun HS => ?_)
   clear hK K
   try simp only [Act.put, zA]
   refine qR 6 fun K hK => ?_
   rw [if_pos (by rfl)]
   obtain ⟨A9, c9, wx9, hrun9, hgr9⟩ := run_append_L (P := Tryz.prog) wx8 37 37 210 _ 5 56 Tryz.underlying37 Tryz.infoEn rfl (by decide) w2.heap.size (some ⟨r1, 0, none⟩) 0 0 [] HR8.out A s.L.length c (recs s.L) (recs_len _) (fun h0 => by obtain ⟨lb, hA, hlt, hrr⟩ := own_range HV2.out.row h0; exact ⟨lb, 0, hA, rangeAt_keep hrr (HB8.out.block lb hlt)⟩) (recs_cell _) (by have := HLL.out; omega) (by have := HLL.out; unfold maxLen; omega) HB8.out.size
   rw [Nat.zero_add, List.nil_append] at hgr9
   rw [Nat.zero_add] at hrun9
   refine wp_append_run 37 _ _ rfl _ _ _ rfl rfl hrun9 ?_
   have HR9 : Hid (wx9.ownsRow w2.heap.size 210 5 (.slice A9 s.L.length c9) s.L.length (recs s.L)) := hid hgr9.1
   have HB9 : Hid (Below w2.heap.size w2 wx9) := hid (HB8.out.grown hgr9.2.2.1 HB8.out.size (fun d hd => by injection hd with hd; have := own_ge HR8.out r1 rfl; have hd : r1 = d := hd; omega))
   have HQ9 : Hid (Blk wx9 q8 210 #[.int .i64 k.t, .int .i64 k.c, .int .i64 k.e, .string (str b), .string (str p)]) := hid (HQ8.out.keep (hgr9.2.2.1.block _ HQ8.out.lt (fun e => by injection e with e; exact HD8.out e.symm)))
   have HD9 : Hid (∀ d, A9.map (·.block) = some d → d ≠ q8) := hid (fun d hd => by
    have := HQ8.out.lt
    rcases hgr9.2.2.2 d hd with e | e
    · injection e with e; exact fun e2 => HD8.out (e.trans e2)
    · omega)
   clear hrun9 hgr9
   refine hK.out _ _ (HB9.out.block w.heap.size HKW.out) (fun HS => ?_)
   clear hK K
   try simp only [Act.put, zA]
   refine qR 12 fun K hK => ?_
   rw [if_pos (by rfl)]
   obtain ⟨A10, c10, w5, hrun10, hgr10⟩ := run_append_L (P := Tryz.prog) wx9 37 37 210 _ 5 56 Tryz.underlying37 Tryz.infoEn rfl (by decide) w2.heap.size A9 s.L.length c9 (recs s.L) HR9.out (some ⟨q8, 0, none⟩) 1 1 (rec5 (⟨k, b, p⟩ : En)) rfl (fun _ => ⟨q8, 0, rfl, fun j v hv => by rw [HQ9.out.cell, Nat.zero_add, List.getElem?_toArray]; exact hv⟩) (rec5_cell _) (by have := HLL.out; omega) (by have := HLL.out; unfold maxLen; omega) HB9.out.size
   have HB5 : Hid (Below w2.heap.size w2 w5) := hid (HB9.out.grown hgr10.2.2.1 HB9.out.size (fun d hd => own_ge HR9.out d hd))
   have HL5 := hid (RVAt.sealed HV2.out (⟨k, b, p⟩ : En) HB5.out hgr10.1)
   rw [HNN.out] at HL5 hrun10
   refine wp_append_run 37 _ _ rfl _ _ _ rfl rfl hrun10 ?_
   have eg5 := HB5.out.block g HGV.out
   have f5 := (HV2.out.blk.keep eg5).frozen 0
   have u0 := (HV2.out.blk.keep eg5).cell 0
   simp only [zD, zF] at u0
   have HV0 : Hid ((w5.setCell ⟨g, 0, none⟩ (.slice A10 NN c10)).cell? ⟨g, 0, none⟩ = some (.slice A10 NN c10)) := hid (by simpa using ((HV2.out.blk.keep eg5).store 0 (.slice A10 NN c10)).cell 0)
   clear hrun10 hgr10 eg5
   refine hK.out _ _ (HB5.out.block w.heap.size HKW.out) (fun HS => ?_)
   clear hK K
   try simp only [Act.put, zA]
   refine qT 13 ?vzblfg13 ?yzblfg13 HS ?rzblfg13
   case yzblfg13 => refine qI fun wS hSw => ?_; go_simp; try with_reducible rfl
   try simp only [Act.put, zA]
   refine qT 14 ?vzblfg14 ?yzblfg14 HS ?rzblfg14
   case yzblfg14 => refine qI fun wS hSw => ?_; go_simp; try with_reducible rfl
   try simp only [Act.put, zA]
   refine qR 15 fun K hK => ?_
   go_simp
   refine hK.out _ _ ((Below.heap_setCell w5 ⟨g, 0, none⟩ _ w.heap.size (fun e => by have e' : w.heap.size = g := e; have := HGW.out; omega)).trans (HB5.out.block w.heap.size HKW.out)) (fun HS => ?_)
   clear hK K
   try simp only [Act.put]
   refine qD ?_
   clear HS u0 f5
   have v0 := HV0.out
   go_wp2
   go_ret2
   exact ⟨rfl, RVLeft.after HBW.out HL5.out⟩
 case stepz5 =>
  rw [if_pos (by rfl)]
  refine wp_load_slice 37 (.tmp 35) rfl 210 Tryz.underlying37 g 0 rfl _ ((World.cell?_of_block (HBs.out.block g HGV.out)).trans yd) ?_
  refine hK.out _ _ (HBs.out.block w.heap.size HKW.out) (fun HS => ?_)
  clear hK K
  try simp only [Act.put, zA]
  refine wpAnyH_ready (rs := [1, 11]) (by kernel_rfl) (by simp) ?_
  refine (AllReadyH.cons (o := ?ozf1) ?hozf1 (fun K hK => ?stepzf1) (AllReadyH.cons (o := ?ozf11) ?hozf11 (fun K hK => ?stepzf11) AllReadyH.nil))
  case hozf1 => simp only [zD, zE, zF]; exact rfl
  case hozf11 => simp only [zD, zE, zF]; exact rfl
  case stepzf1 =>
   rw [if_pos (by rfl)]
   refine wp_buildSlice0 37 210 rfl Tryz.underlying37 Tryz.isInfoEn ?_
   have HB11 : Hid (Below w2.heap.size w2 (w2.drew.alloc (.cells #[] 210))) := hid (HBs.out.alloc HBs.out.size _)
   have HR11 : Hid ((w2.drew.alloc (.cells #[] 210)).ownsRow w2.heap.size 210 5 (.slice (some ⟨w2.drew.heap.size, 0, none⟩) 0 0) 0 []) := hid (own_empty _ _ _ _ HBs.out.size)
   generalize hr11 : w2.drew.heap.size = r11 at *
   clear hr11
   generalize hw11 : w2.drew.alloc (.cells #[] 210) = wx11 at *
   clear hw11
   refine hK.out _ _ (HB11.out.block w.heap.size HKW.out) (fun HS => ?_)
   clear hK K
   try simp only [Act.put, zA]
   refine wpAnyH_ready (rs := [6, 11]) (by kernel_rfl) (by simp) ?_
   refine (AllReadyH.cons (o := ?ozfb6) ?hozfb6 (fun K hK => ?stepzfb6) (AllReadyH.cons (o := ?ozfb11) ?hozfb11 (fun K hK => ?stepzfb11) AllReadyH.nil))
   case hozfb6 => simp only [zD, zE, zF]; exact rfl
   case hozfb11 => simp only [zD, zE, zF]; exact rfl
   case stepzfb6 =>
    rw [if_pos (by rfl)]
    obtain ⟨A12, c12, wx12, hrun12, hgr12⟩ := run_append_L (P := Tryz.prog) wx11 37 37 210 _ 5 56 Tryz.underlying37 Tryz.infoEn rfl (by decide) w2.heap.size (some ⟨r11, 0, none⟩) 0 0 [] HR11.out A s.L.length c (recs s.L) (recs_len _) (fun h0 => by obtain ⟨lb, hA, hlt, hrr⟩ := own_range HV2.out.row h0; exact ⟨lb, 0, hA, rangeAt_keep hrr (HB11.out.block lb hlt)⟩) (recs_cell _) (by have := HLL.out; omega) (by have := HLL.out; unfold maxLen; omega) HB11.out.size
    rw [Nat.zero_add, List.nil_append] at hgr12
    rw [Nat.zero_add] at hrun12
    refine wp_append_run 37 _ _ rfl _ _ _ rfl rfl hrun12 ?_
    have HR12 : Hid (wx12.ownsRow w2.heap.size 210 5 (.slice A12 s.L.length c12) s.L.length (recs s.L)) := hid hgr12.1
    have HB12 : Hid (Below w2.heap.size w2 wx12) := hid (HB11.out.grown hgr12.2.2.1 HB11.out.size (fun d hd => by injection hd with hd; have := own_ge HR11.out r11 rfl; have hd : r11 = d := hd; omega))
    clear hrun12 hgr12
    refine hK.out _ _ (HB12.out.block w.heap.size HKW.out) (fun HS => ?_)
    clear hK K
    try simp only [Act.put, zA]
    refine qR 11 fun K hK => ?_
    rw [if_pos (by rfl)]
    obtain ⟨ie, hie, hz0, hz1, hz2⟩ := info_parts Tryz.infoEn
    refine wp_buildSlice 37 210 1 _ rfl #[.int .i64 k.t, .int .i64 k.c, .int .i64 k.e, .string (str b), .string (str p)] ie _ Tryz.underlying37 hie hz0 (by rw [hz1]; decide) (by rw [hz1]; decide) (by rw [hz1]; simp only [List.map_toArray, List.map_cons, List.map_nil]; exact filled_en k (str b) (str p)) ?_
    clear hie hz0 hz1 hz2
    have HB13 : Hid (Below w2.heap.size w2 (wx12.alloc (.cells #[.int .i64 k.t, .int .i64 k.c, .int .i64 k.e, .string (str b), .string (str p)] 210))) := hid (HB12.out.alloc HB12.out.size _)
    have HQ13 : Hid (Blk (wx12.alloc (.cells #[.int .i64 k.t, .int .i64 k.c, .int .i64 k.e, .string (str b), .string (str p)] 210)) wx12.heap.size 210 #[.int .i64 k.t, .int .i64 k.c, .int .i64 k.e, .string (str b), .string (str p)]) := hid (Blk.new wx12 210 #[.int .i64 k.t, .int .i64 k.c, .int .i64 k.e, .string (str b), .string (str p)])
    have HR13 : Hid ((wx12.alloc (.cells #[.int .i64 k.t, .int .i64 k.c, .int .i64 k.e, .string (str b), .string (str p)] 210)).ownsRow w2.heap.size 210 5 (.slice A12 s.L.length c12) s.L.length (recs s.L)) := hid (own_keep HR12.out fun d hd => ((Below.refl _ _).alloc (nl _) _).block d (own_lt HR12.out d hd))
    have HD13 : Hid (∀ d, A12.map (·.block) = some d → d ≠ wx12.heap.size) := hid (fun d hd => by have := own_lt HR12.out d hd; omega)
    generalize hq13 : wx12.heap.size = q13 at *
    clear hq13
    generalize hw13 : wx12.alloc (.cells #[.int .i64 k.t, .int .i64 k.c, .int .i64 k.e, .string (str b), .string (str p)] 210) = wx13 at *
    clear hw13
    refine hK.out _ _ (HB13.out.block w.heap.size HKW.out) (fun HS => ?_)
    clear hK K
    try simp only [Act.put, zA]
    refine qR 12 fun K hK => ?_
    rw [if_pos (by rfl)]
    obtain ⟨A14, c14, w5, hrun14, hgr14⟩ := run_append_L (P := Tryz.prog) wx13 37 37 210 _ 5 56 Tryz.underlying37 Tryz.infoEn rfl (by decide) w2.heap.size A12 s.L.length c12 (recs s.L) HR13.out (some ⟨q13, 0, none⟩) 1 1 (rec5 (⟨k, b, p⟩ : En)) rfl (fun _ => ⟨q13, 0, rfl, fun j v hv => by rw [HQ13.out.cell, Nat.zero_add, List.getElem?_toArray]; exact hv⟩) (rec5_cell _) (by have := HLL.out; omega) (by have := HLL.out; unfold maxLen; omega) HB13.out.size
    have HB5 : Hid (Below w2.heap.size w2 w5) := hid (HB13.out.grown hgr14.2.2.1 HB13.out.size (fun d hd => own_ge HR13.out d hd))
    have HL5 := hid (RVAt.sealed HV2.out (⟨k, b, p⟩ : En) HB5.out hgr14.1)
    rw [HNN.out] at HL5 hrun14
    refine wp_append_run 37 _ _ rfl _ _ _ rfl rfl hrun14 ?_
    have eg5 := HB5.out.block g HGV.out
    have f5 := (HV2.out.blk.keep eg5).frozen 0
    have u0 := (HV2.out.blk.keep eg5).cell 0
    simp only [zD, zF] at u0
    have HV0 : Hid ((w5.setCell ⟨g, 0, none⟩ (.slice A14 NN c14)).cell? ⟨g, 0, none⟩ = some (.slice A14 NN c14)) := hid (by simpa using ((HV2.out.blk.keep eg5).store 0 (.slice A14 NN c14)).cell 0)
    clear hrun14 hgr14 eg5
    refine hK.out _ _ (HB5.out.block w.heap.size HKW.out) (fun HS => ?_)
    clear hK K
    try simp only [Act.put, zA]
    refine qT 13 ?vzfbgl13 ?yzfbgl13 HS ?rzfbgl13
    case yzfbgl13 => refine qI fun wS hSw => ?_; go_simp; try with_reducible rfl
    try simp only [Act.put, zA]
    refine qT 14 ?vzfbgl14 ?yzfbgl14 HS ?rzfbgl14
    case yzfbgl14 => refine qI fun wS hSw => ?_; go_simp; try with_reducible rfl
    try simp only [Act.put, zA]
    refine qR 15 fun K hK => ?_
    go_simp
    refine hK.out _ _ ((Below.heap_setCell w5 ⟨g, 0, none⟩ _ w.heap.size (fun e => by have e' : w.heap.size = g := e; have := HGW.out; omega)).trans (HB5.out.block w.heap.size HKW.out)) (fun HS => ?_)
    clear hK K
    try simp only [Act.put]
    refine qD ?_
    clear HS u0 f5
    have v0 := HV0.out
    go_wp2
    go_ret2
    exact ⟨rfl, RVLeft.after HBW.out HL5.out⟩
   case stepzfb11 =>
    rw [if_pos (by rfl)]
    obtain ⟨ie, hie, hz0, hz1, hz2⟩ := info_parts Tryz.infoEn
    refine wp_buildSlice 37 210 1 _ rfl #[.int .i64 k.t, .int .i64 k.c, .int .i64 k.e, .string (str b), .string (str p)] ie _ Tryz.underlying37 hie hz0 (by rw [hz1]; decide) (by rw [hz1]; decide) (by rw [hz1]; simp only [List.map_toArray, List.map_cons, List.map_nil]; exact filled_en k (str b) (str p)) ?_
    clear hie hz0 hz1 hz2
    have HB15 : Hid (Below w2.heap.size w2 (wx11.alloc (.cells #[.int .i64 k.t, .int .i64 k.c, .int .i64 k.e, .string (str b), .string (str p)] 210))) := hid (HB11.out.alloc HB11.out.size _)
    have HQ15 : Hid (Blk (wx11.alloc (.cells #[.int .i64 k.t, .int .i64 k.c, .int .i64 k.e, .string (str b), .string (str p)] 210)) wx11.heap.size 210 #[.int .i64 k.t, .int .i64 k.c, .int .i64 k.e, .string (str b), .string (str p)]) := hid (Blk.new wx11 210 #[.int .i64 k.t, .int .i64 k.c, .int .i64 k.e, .string (str b), .string (str p)])
    have HR15 : Hid ((wx11.alloc (.cells #[.int .i64 k.t, .int .i64 k.c, .int .i64 k.e, .string (str b), .string (str p)] 210)).ownsRow w2.heap.size 210 5 (.slice (some ⟨r11, 0, none⟩) 0 0) 0 []) := hid (own_keep HR11.out fun d hd => ((Below.refl _ _).alloc (nl _) _).block d (own_lt HR11.out d hd))
    have HD15 : Hid (r11 ≠ wx11.heap.size) := hid (by have := own_lt HR11.out r11 rfl; omega)
    generalize hq15 : wx11.heap.size = q15 at *
    clear hq15
    generalize hw15 : wx11.alloc (.cells #[.int .i64 k.t, .int .i64 k.c, .int .i64 k.e, .string (str b), .string (str p)] 210) = wx15 at *
    clear hw15
    refine hK.out _ _ (HB15.out.block w.heap.size HKW.out) (fun HS => ?_)
    clear hK K
    try simp only [Act.put, zA]
    refine qR 6 fun K hK => ?_
    rw [if_pos (by rfl)]
    obtain ⟨A16, c16, wx16, hrun16, hgr16⟩ := run_append_L (P := Tryz.prog) wx15 37 37 210 _ 5 56 Tryz.underlying37 Tryz.infoEn rfl (by decide) w2.heap.size (some ⟨r11, 0, none⟩) 0 0 [] HR15.out A s.L.length c (recs s.L) (recs_len _) (fun h0 => by obtain ⟨lb, hA, hlt, hrr⟩ := own_range HV2.out.row h0; exact ⟨lb, 0, hA, rangeAt_keep hrr (HB15.out.block lb hlt)⟩) (recs_cell _) (by have := HLL.out; omega) (by have := HLL.out; unfold maxLen; omega) HB15.out.size
    rw [Nat.zero_add, List.nil_append] at hgr16
    rw [Nat.zero_add] at hrun16
    refine wp_append_run 37 _ _ rfl _ _ _ rfl rfl hrun16 ?_
    have HR16 : Hid (wx16.ownsRow w2.heap.size 210 5 (.slice A16 s.L.length c16) s.L.length (recs s.L)) := hid hgr16.1
    have HB16 : Hid (Below w2.heap.size w2 wx16) := hid (HB15.out.grown hgr16.2.2.1 HB15.out.size (fun d hd => by injection hd with hd; have := own_ge HR15.out r11 rfl; have hd : r11 = d := hd; omega))
    have HQ16 : Hid (Blk wx16 q15 210 #[.int .i64 k.t, .int .i64 k.c, .int .i64 k.e, .string (str b), .string (str p)]) := hid (HQ15.out.keep (hgr16.2.2.1.block _ HQ15.out.lt (fun e => by injection e with e; exact HD15.out e.symm)))
    have HD16 : Hid (∀ d, A16.map (·.block) = some d → d ≠ q15) := hid (fun d hd => by
     have := HQ15.out.lt
     rcases hgr16.2.2.2 d hd with e | e
     · injection e with e; exact fun e2 => HD15.out (e.trans e2)
     · omega)
    clear hrun16 hgr16
    refine hK.out _ _ (HB16.out.block w.heap.size HKW.out) (fun HS => ?_)
    clear hK K
    try simp only [Act.put, zA]
    refine qR 12 fun K hK => ?_
    rw [if_pos (by rfl)]
    obtain ⟨A17, c17, w5, hrun17, hgr17⟩ := run_append_L (P := Tryz.prog) wx16 37 37 210 _ 5 56 Tryz.underlying37 Tryz.infoEn rfl (by decide) w2.heap.size A16 s.L.length c16 (recs s.L) HR16.out (some ⟨q15, 0, none⟩) 1 1 (rec5 (⟨k, b, p⟩ : En)) rfl (fun _ => ⟨q15, 0, rfl, fun j v hv => by rw [HQ16.out.cell, Nat.zero_add, List.getElem?_toArray]; exact hv⟩) (rec5_cell _) (by have := HLL.out; omega) (by have := HLL.out; unfold maxLen; omega) HB16.out.size
    have HB5 : Hid (Below w2.heap.size w2 w5) := hid (HB16.out.grown hgr17.2.2.1 HB16.out.size (fun d hd => own_ge HR16.out d hd))
    have HL5 := hid (RVAt.sealed HV2.out (⟨k, b, p⟩ : En) HB5.out hgr17.1)
    rw [HNN.out] at HL5 hrun17
    refine wp_append_run 37 _ _ rfl _ _ _ rfl rfl hrun17 ?_
    have eg5 := HB5.out.block g HGV.out
    have f5 := (HV2.out.blk.keep eg5).frozen 0
    have u0 := (HV2.out.blk.keep eg5).cell 0
    simp only [zD, zF] at u0
    have HV0 : Hid ((w5.setCell ⟨g, 0, none⟩ (.slice A17 NN c17)).cell? ⟨g, 0, none⟩ = some (.slice A17 NN c17)) := hid (by simpa using ((HV2.out.blk.keep eg5).store 0 (.slice A17 NN c17)).cell 0)
    clear hrun17 hgr17 eg5
    refine hK.out _ _ (HB5.out.block w.heap.size HKW.out) (fun HS => ?_)
    clear hK K
    try simp only [Act.put, zA]
    refine qT 13 ?vzfblg13 ?yzfblg13 HS ?rzfblg13
    case yzfblg13 => refine qI fun wS hSw => ?_; go_simp; try with_reducible rfl
    try simp only [Act.put, zA]
    refine qT 14 ?vzfblg14 ?yzfblg14 HS ?rzfblg14
    case yzfblg14 => refine qI fun wS hSw => ?_; go_simp; try with_reducible rfl
    try simp only [Act.put, zA]
    refine qR 15 fun K hK => ?_
    go_simp
    refine hK.out _ _ ((Below.heap_setCell w5 ⟨g, 0, none⟩ _ w.heap.size (fun e => by have e' : w.heap.size = g := e; have := HGW.out; omega)).trans (HB5.out.block w.heap.size HKW.out)) (fun HS => ?_)
    clear hK K
    try simp only [Act.put]
    refine qD ?_
    clear HS u0 f5
    have v0 := HV0.out
    go_wp2
    go_ret2
    exact ⟨rfl, RVLeft.after HBW.out HL5.out⟩
  case stepzf11 =>
   rw [if_pos (by rfl)]
   obtain ⟨ie, hie, hz0, hz1, hz2⟩ := info_parts Tryz.infoEn
   refine wp_buildSlice 37 210 1 _ rfl #[.int .i64 k.t, .int .i64 k.c, .int .i64 k.e, .string (str b), .string (str p)] ie _ Tryz.underlying37 hie hz0 (by rw [hz1]; decide) (by rw [hz1]; decide) (by rw [hz1]; simp only [List.map_toArray, List.map_cons, List.map_nil]; exact filled_en k (str b) (str p)) ?_
   clear hie hz0 hz1 hz2
   have HB18 : Hid (Below w2.heap.size w2 (w2.drew.alloc (.cells #[.int .i64 k.t, .int .i64 k.c, .int .i64 k.e, .string (str b), .string (str p)] 210))) := hid (HBs.out.alloc HBs.out.size _)
   have HQ18 : Hid (Blk (w2.drew.alloc (.cells #[.int .i64 k.t, .int .i64 k.c, .int .i64 k.e, .string (str b), .string (str p)] 210)) w2.drew.heap.size 210 #[.int .i64 k.t, .int .i64 k.c, .int .i64 k.e, .string (str b), .string (str p)]) := hid (Blk.new w2.drew 210 #[.int .i64 k.t, .int .i64 k.c, .int .i64 k.e, .string (str b), .string (str p)])
   generalize hq18 : w2.drew.heap.size = q18 at *
   clear hq18
   generalize hw18 : w2.drew.alloc (.cells #[.int .i64 k.t, .int .i64 k.c, .int .i64 k.e, .string (str b), .string (str p)] 210) = wx18 at *
   clear hw18
   refine hK.out _ _ (HB18.out.block w.heap.size HKW.out) (fun HS => ?_)
   clear hK K
   try simp only [Act.put, zA]
   refine qR 1 fun K hK => ?_
   rw [if_pos (by rfl)]
   refine wp_buildSlice0 37 210 rfl Tryz.underlying37 Tryz.isInfoEn ?_
   have HB19 : Hid (Below w2.heap.size w2 (wx18.alloc (.cells #[] 210))) := hid (HB18.out.alloc HB18.out.size _)
   have HR19 : Hid ((wx18.alloc (.cells #[] 210)).ownsRow w2.heap.size 210 5 (.slice (some ⟨wx18.heap.size, 0, none⟩) 0 0) 0 []) := hid (own_empty _ _ _ _ HB18.out.size)
   have HQ19 : Hid (Blk (wx18.alloc (.cells #[] 210)) q18 210 #[.int .i64 k.t, .int .i64 k.c, .int .i64 k.e, .string (str b), .string (str p)]) := hid (HQ18.out.keep (((Below.refl _ _).alloc (nl _) _).block _ HQ18.out.lt))
   have HD19 : Hid (wx18.heap.size ≠ q18) := hid (by have := HQ18.out.lt; omega)
   generalize hr19 : wx18.heap.size = r19 at *
   clear hr19
   generalize hw19 : wx18.alloc (.cells #[] 210) = wx19 at *
   clear hw19
   refine hK.out _ _ (HB19.out.block w.heap.size HKW.out) (fun HS => ?_)
   clear hK K
   try simp only [Act.put, zA]
   refine qR 6 fun K hK => ?_
   rw [if_pos (by rfl)]
   obtain ⟨A20, c20, wx20, hrun20, hgr20⟩ := run_append_L (P := Tryz.prog) wx19 37 37 210 _ 5 56 Tryz.underlying37 Tryz.infoEn rfl (by decide) w2.heap.size (some ⟨r19, 0, none⟩) 0 0 [] HR19.out A s.L.length c (recs s.L) (recs_len _) (fun h0 => by obtain ⟨lb, hA, hlt, hrr⟩ := own_range HV2.out.row h0; exact ⟨lb, 0, hA, rangeAt_keep hrr (HB19.out.block lb hlt)⟩) (recs_cell _) (by have := HLL.out; omega) (by have := HLL.out; unfold maxLen; omega) HB19.out.size
   rw [Nat.zero_add, List.nil_append] at hgr20
   rw [Nat.zero_add] at hrun20
   refine wp_append_run 37 _ _ rfl _ _ _ rfl rfl hrun20 ?_
   have HR20 : Hid (wx20.ownsRow w2.heap.size 210 5 (.slice A20 s.L.length c20) s.L.length (recs s.L)) := hid hgr20.1
   have HB20 : Hid (Below w2.heap.size w2 wx20) := hid (HB19.out.grown hgr20.2.2.1 HB19.out.size (fun d hd => by injection hd with hd; have := own_ge HR19.out r19 rfl; have hd : r19 = d := hd; omega))
   have HQ20 : Hid (Blk wx20 q18 210 #[.int .i64 k.t, .int .i64 k.c, .int .i64 k.e, .string (str b), .string (str p)]) := hid (HQ19.out.keep (hgr20.2.2.1.block _ HQ19.out.lt (fun e => by injection e with e; exact HD19.out e.symm)))
   have HD20 : Hid (∀ d, A20.map (·.block) = some d → d ≠ q18) := hid (fun d hd => by
    have := HQ19.out.lt
    rcases hgr20.2.2.2 d hd with e | e
    · injection e with e; exact fun e2 => HD19.out (e.trans e2)
    · omega)
   clear hrun20 hgr20
   refine hK.out _ _ (HB20.out.block w.heap.size HKW.out) (fun HS => ?_)
   clear hK K
   try simp only [Act.put, zA]
   refine qR 12 fun K hK => ?_
   rw [if_pos (by rfl)]
   obtain ⟨A21, c21, w5, hrun21, hgr21⟩ := run_append_L (P := Tryz.prog) wx20 37 37 210 _ 5 56 Tryz.underlying37 Tryz.infoEn rfl (by decide) w2.heap.size A20 s.L.length c20 (recs s.L) HR20.out (some ⟨q18, 0, none⟩) 1 1 (rec5 (⟨k, b, p⟩ : En)) rfl (fun _ => ⟨q18, 0, rfl, fun j v hv => by rw [HQ20.out.cell, Nat.zero_add, List.getElem?_toArray]; exact hv⟩) (rec5_cell _) (by have := HLL.out; omega) (by have := HLL.out; unfold maxLen; omega) HB20.out.size
   have HB5 : Hid (Below w2.heap.size w2 w5) := hid (HB20.out.grown hgr21.2.2.1 HB20.out.size (fun d hd => own_ge HR20.out d hd))
   have HL5 := hid (RVAt.sealed HV2.out (⟨k, b, p⟩ : En) HB5.out hgr21.1)
   rw [HNN.out] at HL5 hrun21
   refine wp_append_run 37 _ _ rfl _ _ _ rfl rfl hrun21 ?_
   have eg5 := HB5.out.block g HGV.out
   have f5 := (HV2.out.blk.keep eg5).frozen 0
   have u0 := (HV2.out.blk.keep eg5).cell 0
   simp only [zD, zF] at u0
   have HV0 : Hid ((w5.setCell ⟨g, 0, none⟩ (.slice A21 NN c21)).cell? ⟨g, 0, none⟩ = some (.slice A21 NN c21)) := hid (by simpa using ((HV2.out.blk.keep eg5).store 0 (.slice A21 NN c21)).cell 0)
   clear hrun21 hgr21 eg5
   refine hK.out _ _ (HB5.out.block w.heap.size HKW.out) (fun HS => ?_)
   clear hK K
   try simp only [Act.put, zA]
   refine qT 13 ?vzflbg13 ?yzflbg13 HS ?rzflbg13
   case yzflbg13 => refine qI fun wS hSw => ?_; go_simp; try with_reducible rfl
   try simp only [Act.put, zA]
   refine qT 14 ?vzflbg14 ?yzflbg14 HS ?rzflbg14
   case yzflbg14 => refine qI fun wS hSw => ?_; go_simp; try with_reducible rfl
   try simp only [Act.put, zA]
   refine qR 15 fun K hK => ?_
   go_simp
   refine hK.out _ _ ((Below.heap_setCell w5 ⟨g, 0, none⟩ _ w.heap.size (fun e => by have e' : w.heap.size = g := e; have := HGW.out; omega)).trans (HB5.out.block w.heap.size HKW.out)) (fun HS => ?_)
   clear hK K
   try simp only [Act.put]
   refine qD ?_
   clear HS u0 f5
   have v0 := HV0.out
   go_wp2
   go_ret2
   exact ⟨rfl, RVLeft.after HBW.out HL5.out⟩
 case stepz11 =>
  rw [if_pos (by rfl)]
  obtain ⟨ie, hie, hz0, hz1, hz2⟩ := info_parts Tryz.infoEn
  refine wp_buildSlice 37 210 1 _ rfl #[.int .i64 k.t, .int .i64 k.c, .int .i64 k.e, .string (str b), .string (str p)] ie _ Tryz.underlying37 hie hz0 (by rw [hz1]; decide) (by rw [hz1]; decide) (by rw [hz1]; simp only [List.map_toArray, List.map_cons, List.map_nil]; exact filled_en k (str b) (str p)) ?_
  clear hie hz0 hz1 hz2
  have HB22 : Hid (Below w2.heap.size w2 (w2.drew.alloc (.cells #[.int .i64 k.t, .int .i64 k.c, .int .i64 k.e, .string (str b), .string (str p)] 210))) := hid (HBs.out.alloc HBs.out.size _)
  have HQ22 : Hid (Blk (w2.drew.alloc (.cells #[.int .i64 k.t, .int .i64 k.c, .int .i64 k.e, .string (str b), .string (str p)] 210)) w2.drew.heap.size 210 #[.int .i64 k.t, .int .i64 k.c, .int .i64 k.e, .string (str b), .string (str p)]) := hid (Blk.new w2.drew 210 #[.int .i64 k.t, .int .i64 k.c, .int .i64 k.e, .string (str b), .string (str p)])
  generalize hq22 : w2.drew.heap.size = q22 at *
  clear hq22
  generalize hw22 : w2.drew.alloc (.cells #[.int .i64 k.t, .int .i64 k.c, .int .i64 k.e, .string (str b), .string (str p)] 210) = wx22 at *
  clear hw22
  refine hK.out _ _ (HB22.out.block w.heap.size HKW.out) (fun HS => ?_)
  clear hK K
  try simp only [Act.put, zA]
  refine wpAnyH_ready (rs := [1, 5]) (by kernel_rfl) (by simp) ?_
  refine (AllReadyH.cons (o := ?ozl1) ?hozl1 (fun K hK => ?stepzl1) (AllReadyH.cons (o := ?ozl5) ?hozl5 (fun K hK => ?stepzl5) AllReadyH.nil))
  case hozl1 => simp only [zD, zE, zF]; exact rfl
  case hozl5 => simp only [zD, zE, zF]; exact rfl
  case stepzl1 =>
   rw [if_pos (by rfl)]
   refine wp_buildSlice0 37 210 rfl Tryz.underlying37 Tryz.isInfoEn ?_
   have HB23 : Hid (Below w2.heap.size w2 (wx22.alloc (.cells #[] 210))) := hid (HB22.out.alloc HB22.out.size _)
   have HR23 : Hid ((wx22.alloc (.cells #[] 210)).ownsRow w2.heap.size 210 5 (.slice (some ⟨wx22.heap.size, 0, none⟩) 0 0) 0 []) := hid (own_empty _ _ _ _ HB22.out.size)
   have HQ23 : Hid (Blk (wx22.alloc (.cells #[] 210)) q22 210 #[.int .i64 k.t, .int .i64 k.c, .int .i64 k.e, .string (str b), .string (str p)]) := hid (HQ22.out.keep (((Below.refl _ _).alloc (nl _) _).block _ HQ22.out.lt))
   have HD23 : Hid (wx22.heap.size ≠ q22) := hid (by have := HQ22.out.lt; omega)
   generalize hr23 : wx22.heap.size = r23 at *
   clear hr23
   generalize hw23 : wx22.alloc (.cells #[] 210) = wx23 at *
   clear hw23
   refine hK.out _ _ (HB23.out.block w.heap.size HKW.out) (fun HS => ?_)
   clear hK K
   try simp only [Act.put, zA]
   refine qR 5 fun K hK => ?_
   rw [if_pos (by rfl)]
   refine wp_load_slice 37 (.tmp 35) rfl 210 Tryz.underlying37 g 0 rfl _ ((World.cell?_of_block (HB23.out.block g HGV.out)).trans yd) ?_
   refine hK.out _ _ (HB23.out.block w.heap.size HKW.out) (fun HS => ?_)
   clear hK K
   try simp only [Act.put, zA]
   refine qR 6 fun K hK => ?_
   rw [if_pos (by rfl)]
   obtain ⟨A24, c24, wx24, hrun24, hgr24⟩ := run_append_L (P := Tryz.prog) wx23 37 37 210 _ 5 56 Tryz.underlying37 Tryz.infoEn rfl (by decide) w2.heap.size (some ⟨r23, 0, none⟩) 0 0 [] HR23.out A s.L.length c (recs s.L) (recs_len _) (fun h0 => by obtain ⟨lb, hA, hlt, hrr⟩ := own_range HV2.out.row h0; exact ⟨lb, 0, hA, rangeAt_keep hrr (HB23.out.block lb hlt)⟩) (recs_cell _) (by have := HLL.out; omega) (by have := HLL.out; unfold maxLen; omega) HB23.out.size
   rw [Nat.zero_add, List.nil_append] at hgr24
   rw [Nat.zero_add] at hrun24
   refine wp_append_run 37 _ _ rfl _ _ _ rfl rfl hrun24 ?_
   have HR24 : Hid (wx24.ownsRow w2.heap.size 210 5 (.slice A24 s.L.length c24) s.L.length (recs s.L)) := hid hgr24.1
   have HB24 : Hid (Below w2.heap.size w2 wx24) := hid (HB23.out.grown hgr24.2.2.1 HB23.out.size (fun d hd => by injection hd with hd; have := own_ge HR23.out r23 rfl; have hd : r23 = d := hd; omega))
   have HQ24 : Hid (Blk wx24 q22 210 #[.int .i64 k.t, .int .i64 k.c, .int .i64 k.e, .string (str b), .string (str p)]) := hid (HQ23.out.keep (hgr24.2.2.1.block _ HQ23.out.lt (fun e => by injection e with e; exact HD23.out e.symm)))
   have HD24 : Hid (∀ d, A24.map (·.block) = some d → d ≠ q22) := hid (fun d hd => by
    have := HQ23.out.lt
    rcases hgr24.2.2.2 d hd with e | e
    · injection e with e; exact fun e2 => HD23.out (e.trans e2)
    · omega)
   clear hrun24 hgr24
   refine hK.out _ _ (HB24.out.block w.heap.size HKW.out) (fun HS => ?_)
   clear hK K
   try simp only [Act.put, zA]
   refine qR 12 fun K hK => ?_
   rw [if_pos (by rfl)]
   obtain ⟨A25, c25, w5, hrun25, hgr25⟩ := run_append_L (P := Tryz.prog) wx24 37 37 210 _ 5 56 Tryz.underlying37 Tryz.infoEn rfl (by decide) w2.heap.size A24 s.L.length c24 (recs s.L) HR24.out (some ⟨q22, 0, none⟩) 1 1 (rec5 (⟨k, b, p⟩ : En)) rfl (fun _ => ⟨q22, 0, rfl, fun j v hv => by rw [HQ24.out.cell, Nat.zero_add, List.getElem?_toArray]; exact hv⟩) (rec5_cell _) (by have := HLL.out; omega) (by have := HLL.out; unfold maxLen; omega) HB24.out.size
   have HB5 : Hid (Below w2.heap.size w2 w5) := hid (HB24.out.grown hgr25.2.2.1 HB24.out.size (fun d hd => own_ge HR24.out d hd))
   have HL5 := hid (RVAt.sealed HV2.out (⟨k, b, p⟩ : En) HB5.out hgr25.1)
   rw [HNN.out] at HL5 hrun25
   refine wp_append_run 37 _ _ rfl _ _ _ rfl rfl hrun25 ?_
   have eg5 := HB5.out.block g HGV.out
   have f5 := (HV2.out.blk.keep eg5).frozen 0
   have u0 := (HV2.out.blk.keep eg5).cell 0
   simp only [zD, zF] at u0
   have HV0 : Hid ((w5.setCell ⟨g, 0, none⟩ (.slice A25 NN c25)).cell? ⟨g, 0, none⟩ = some (.slice A25 NN c25)) := hid (by simpa using ((HV2.out.blk.keep eg5).store 0 (.slice A25 NN c25)).cell 0)
   clear hrun25 hgr25 eg5
   refine hK.out _ _ (HB5.out.block w.heap.size HKW.out) (fun HS => ?_)
   clear hK K
   try simp only [Act.put, zA]
   refine qT 13 ?vzlbfg13 ?yzlbfg13 HS ?rzlbfg13
   case yzlbfg13 => refine qI fun wS hSw => ?_; go_simp; try with_reducible rfl
   try simp only [Act.put, zA]
   refine qT 14 ?vzlbfg14 ?yzlbfg14 HS ?rzlbfg14
   case yzlbfg14 => refine qI fun wS hSw => ?_; go_simp; try with_reducible rfl
   try simp only [Act.put, zA]
   refine qR 15 fun K hK => ?_
   go_simp
   refine hK.out _ _ ((Below.heap_setCell w5 ⟨g, 0, none⟩ _ w.heap.size (fun e => by have e' : w.heap.size = g := e; have := HGW.out; omega)).trans (HB5.out.block w.heap.size HKW.out)) (fun HS => ?_)
   clear hK K
   try simp only [Act.put]
   refine qD ?_
   clear HS u0 f5
   have v0 := HV0.out
   go_wp2
   go_ret2
   exact ⟨rfl, RVLeft.after HBW.out HL5.out⟩
  case stepzl5 =>
   rw [if_pos (by rfl)]
   refine wp_load_slice 37 (.tmp 35) rfl 210 Tryz.underlying37 g 0 rfl _ ((World.cell?_of_block (HB22.out.block g HGV.out)).trans yd) ?_
   refine hK.out _ _ (HB22.out.block w.heap.size HKW.out) (fun HS => ?_)
   clear hK K
   try simp only [Act.put, zA]
   refine qR 1 fun K hK => ?_
   rw [if_pos (by rfl)]
   refine wp_buildSlice0 37 210 rfl Tryz.underlying37 Tryz.isInfoEn ?_
   have HB26 : Hid (Below w2.heap.size w2 (wx22.alloc (.cells #[] 210))) := hid (HB22.out.alloc HB22.out.size _)
   have HR26 : Hid ((wx22.alloc (.cells #[] 210)).ownsRow w2.heap.size 210 5 (.slice (some ⟨wx22.heap.size, 0, none⟩) 0 0) 0 []) := hid (own_empty _ _ _ _ HB22.out.size)
   have HQ26 : Hid (Blk (wx22.alloc (.cells #[] 210)) q22 210 #[.int .i64 k.t, .int .i64 k.c, .int .i64 k.e, .string (str b), .string (str p)]) := hid (HQ22.out.keep (((Below.refl _ _).alloc (nl _) _).block _ HQ22.out.lt))
   have HD26 : Hid (wx22.heap.size ≠ q22) := hid (by have := HQ22.out.lt; omega)
   generalize hr26 : wx22.heap.size = r26 at *
   clear hr26
   generalize hw26 : wx22.alloc (.cells #[] 210) = wx26 at *
   clear hw26
   refine hK.out _ _ (HB26.out.block w.heap.size HKW.out) (fun HS => ?_)
   clear hK K
   try simp only [Act.put, zA]
   refine qR 6 fun K hK => ?_
   rw [if_pos (by rfl)]
   obtain ⟨A27, c27, wx27, hrun27, hgr27⟩ := run_append_L (P := Tryz.prog) wx26 37 37 210 _ 5 56 Tryz.underlying37 Tryz.infoEn rfl (by decide) w2.heap.size (some ⟨r26, 0, none⟩) 0 0 [] HR26.out A s.L.length c (recs s.L) (recs_len _) (fun h0 => by obtain ⟨lb, hA, hlt, hrr⟩ := own_range HV2.out.row h0; exact ⟨lb, 0, hA, rangeAt_keep hrr (HB26.out.block lb hlt)⟩) (recs_cell _) (by have := HLL.out; omega) (by have := HLL.out; unfold maxLen; omega) HB26.out.size
   rw [Nat.zero_add, List.nil_append] at hgr27
   rw [Nat.zero_add] at hrun27
   refine wp_append_run 37 _ _ rfl _ _ _ rfl rfl hrun27 ?_
   have HR27 : Hid (wx27.ownsRow w2.heap.size 210 5 (.slice A27 s.L.length c27) s.L.length (recs s.L)) := hid hgr27.1
   have HB27 : Hid (Below w2.heap.size w2 wx27) := hid (HB26.out.grown hgr27.2.2.1 HB26.out.size (fun d hd => by injection hd with hd; have := own_ge HR26.out r26 rfl; have hd : r26 = d := hd; omega))
   have HQ27 : Hid (Blk wx27 q22 210 #[.int .i64 k.t, .int .i64 k.c, .int .i64 k.e, .string (str b), .string (str p)]) := hid (HQ26.out.keep (hgr27.2.2.1.block _ HQ26.out.lt (fun e => by injection e with e; exact HD26.out e.symm)))
   have HD27 : Hid (∀ d, A27.map (·.block) = some d → d ≠ q22) := hid (fun d hd => by
    have := HQ26.out.lt
    rcases hgr27.2.2.2 d hd with e | e
    · injection e with e; exact fun e2 => HD26.out (e.trans e2)
    · omega)
   clear hrun27 hgr27
   refine hK.out _ _ (HB27.out.block w.heap.size HKW.out) (fun HS => ?_)
   clear hK K
   try simp only [Act.put, zA]
   refine qR 12 fun K hK => ?_
   rw [if_pos (by rfl)]
   obtain ⟨A28, c28, w5, hrun28, hgr28⟩ := run_append_L (P := Tryz.prog) wx27 37 37 210 _ 5 56 Tryz.underlying37 Tryz.infoEn rfl (by decide) w2.heap.size A27 s.L.length c27 (recs s.L) HR27.out (some ⟨q22, 0, none⟩) 1 1 (rec5 (⟨k, b, p⟩ : En)) rfl (fun _ => ⟨q22, 0, rfl, fun j v hv => by rw [HQ27.out.cell, Nat.zero_add, List.getElem?_toArray]; exact hv⟩) (rec5_cell _) (by have := HLL.out; omega) (by have := HLL.out; unfold maxLen; omega) HB27.out.size
   have HB5 : Hid (Below w2.heap.size w2 w5) := hid (HB27.out.grown hgr28.2.2.1 HB27.out.size (fun d hd => own_ge HR27.out d hd))
   have HL5 := hid (RVAt.sealed HV2.out (⟨k, b, p⟩ : En) HB5.out hgr28.1)
   rw [HNN.out] at HL5 hrun28
   refine wp_append_run 37 _ _ rfl _ _ _ rfl rfl hrun28 ?_
   have eg5 := HB5.out.block g HGV.out
   have f5 := (HV2.out.blk.keep eg5).frozen 0
   have u0 := (HV2.out.blk.keep eg5).cell 0
   simp only [zD, zF] at u0
   have HV0 : Hid ((w5.setCell ⟨g, 0, none⟩ (.slice A28 NN c28)).cell? ⟨g, 0, none⟩ = some (.slice A28 NN c28)) := hid (by simpa using ((HV2.out.blk.keep eg5).store 0 (.slice A28 NN c28)).cell 0)
   clear hrun28 hgr28 eg5
   refine hK.out _ _ (HB5.out.block w.heap.size HKW.out) (fun HS => ?_)
   clear hK K
   try simp only [Act.put, zA]
   refine qT 13 ?vzlfbg13 ?yzlfbg13 HS ?rzlfbg13
   case yzlfbg13 => refine qI fun wS hSw => ?_; go_simp; try with_reducible rfl
   try simp only [Act.put, zA]
   refine qT 14 ?vzlfbg14 ?yzlfbg14 HS ?rzlfbg14
   case yzlfbg14 => refine qI fun wS hSw => ?_; go_simp; try with_reducible rfl
   try simp only [Act.put, zA]
   refine qR 15 fun K hK => ?_
   go_simp
   refine hK.out _ _ ((Below.heap_setCell w5 ⟨g, 0, none⟩ _ w.heap.size (fun e => by have e' : w.heap.size = g := e; have := HGW.out; omega)).trans (HB5.out.block w.heap.size HKW.out)) (fun HS => ?_)
   clear hK K
   try simp only [Act.put]
   refine qD ?_
   clear HS u0 f5
   have v0 := HV0.out
   go_wp2
   go_ret2
   exact ⟨rfl, RVLeft.after HBW.out HL5.out⟩
structure Sim (s t : Va) : Prop where
 G : s.G = t.G
 len : s.L.length = t.L.length
 ent : ∀ i (h1 : i < s.L.length) (h2 : i < t.L.length), s.L[i].k = t.L[i].k ∧ (¬ s.L[i].k ∈ s.G → s.L[i] = t.L[i])
theorem Sim.new : Sim Va.new Va.new := ⟨rfl, rfl, fun i h1 _ => absurd h1 (by simp [Va.new])⟩
theorem Sim.seE {s t : Va} (h : Sim s t) (k : Ky) (n : Nat) : seE s k n = seE t k n := by unfold Go.Proofs.YtolaojkcofbkhaaGreat.seE; rw [h.G]
theorem Sim.seH {s t : Va} (h : Sim s t) (k : Ky) (n : Nat) : seH s k n = seH t k n := by unfold Go.Proofs.YtolaojkcofbkhaaGreat.seH; rw [h.G, h.len]
theorem Sim.seS {s t : Va} (h : Sim s t) (k : Ky) (b p : List UInt8) : Sim (seS s k b p) (seS t k b p) := by
 unfold Go.Proofs.YtolaojkcofbkhaaGreat.seS
 split
 · exact h
 · rw [h.G]
   split
   · exact h
   · refine ⟨rfl, by simp [h.len], fun i h1 h2 => ?_⟩
     simp only [List.length_append, List.length_singleton] at h1 h2
     by_cases hi : i < s.L.length
     · have hi2 : i < t.L.length := by rw [← h.len]; exact hi
       simp only [List.getElem_append_left hi, List.getElem_append_left hi2]
       have := h.ent i hi hi2
       rw [h.G] at this
       exact this
     · have e1 : i = s.L.length := by omega
       have e2 : i = t.L.length := by rw [← h.len]; exact e1
       have x1 : (s.L ++ [(⟨k, b, p⟩ : En)])[i]'(by simp; omega) = ⟨k, b, p⟩ := by simp [e1]
       have x2 : (t.L ++ [(⟨k, b, p⟩ : En)])[i]'(by simp; omega) = ⟨k, b, p⟩ := by simp [e2]
       simp only [x1, x2]
       exact ⟨trivial, fun _ => trivial⟩
theorem Sim.destroy {s t : Va} (h : Sim s t) (k : Ky) : Sim (s.destroy k) ⟨t.L, t.G ++ [k]⟩ := by
 refine ⟨by show s.G ++ [k] = _; rw [h.G], by show (s.L.map (wipe k)).length = _; rw [List.length_map]; exact h.len, fun i h1 h2 => ?_⟩
 have hi : i < s.L.length := by simpa [Va.destroy] using h1
 have e : (s.destroy k).L[i] = wipe k s.L[i] := by simp [Va.destroy]
 rw [e, wipe_k]
 refine ⟨(h.ent i hi h2).1, fun hn => ?_⟩
 have hn' : ¬ (s.L[i].k ∈ s.G) ∧ ¬ s.L[i].k = k := by
  have : ¬ s.L[i].k ∈ s.G ++ [k] := hn
  simpa using this
 rw [show wipe k s.L[i] = s.L[i] from if_neg hn'.2]
 exact (h.ent i hi h2).2 hn'.1
theorem Sim.behind {s t : Va} (h : Sim s t) (hd : Nat) : (behind s.L hd).map (·.k) = (behind t.L hd).map (·.k) ∧ ∀ x, behind s.L hd = some x → ¬ x.k ∈ s.G → behind t.L hd = some x := by
 unfold Go.Proofs.YtolaojkcofbkhaaGreat.behind
 by_cases h0 : hd = 0
 · rw [if_pos h0, if_pos h0]; exact ⟨rfl, fun x hx => by cases hx⟩
 · rw [if_neg h0, if_neg h0]
   by_cases hi : hd - 1 < s.L.length
   · have hi2 : hd - 1 < t.L.length := by rw [← h.len]; exact hi
     rw [List.getElem?_eq_getElem hi, List.getElem?_eq_getElem hi2]
     obtain ⟨a1, a2⟩ := h.ent _ hi hi2
     refine ⟨by simp [a1], fun x hx hn => ?_⟩
     injection hx with hx
     subst hx
     rw [a2 hn]
   · rw [List.getElem?_eq_none (by omega), List.getElem?_eq_none (by have := h.len; omega)]
     exact ⟨rfl, fun x hx => by cases hx⟩
theorem Sim.opX {s t : Va} (h : Sim s t) (k : Ky) (b : List UInt8) (hd : Nat) (hk : ¬ k ∈ s.G) : opX s k b hd = opX t k b hd := by
 unfold Go.Proofs.YtolaojkcofbkhaaGreat.opX
 obtain ⟨h1, h2⟩ := h.behind hd
 cases e : Go.Proofs.YtolaojkcofbkhaaGreat.behind s.L hd with
 | none =>
  rw [e] at h1
  have : Go.Proofs.YtolaojkcofbkhaaGreat.behind t.L hd = none := by
   cases e2 : Go.Proofs.YtolaojkcofbkhaaGreat.behind t.L hd with
   | none => rfl
   | some y => rw [e2] at h1; cases h1
  rw [this]
 | some x =>
  cases e2 : Go.Proofs.YtolaojkcofbkhaaGreat.behind t.L hd with
  | none => rw [e, e2] at h1; cases h1
  | some y =>
   have hxy : x.k = y.k := by rw [e, e2] at h1; simpa using h1
   by_cases hxk : x.k = k
   · have := h2 x e (by rw [hxk]; exact hk)
     rw [e2] at this
     injection this with this
     rw [this]
   · show (if x.k = k ∧ x.b = b then some x.p else none) = (if y.k = k ∧ y.b = b then some y.p else none)
     rw [if_neg (fun e => hxk e.1), if_neg (fun e => hxk (hxy.trans e.1))]
theorem Sim.opE {s t : Va} (h : Sim s t) (k : Ky) (b : List UInt8) (hd : Nat) : opE s k b hd = opE t k b hd := by
 unfold Go.Proofs.YtolaojkcofbkhaaGreat.opE
 by_cases hk : k ∈ s.G
 · rw [if_pos hk, if_pos (h.G ▸ hk)]
 · rw [if_neg hk, if_neg (fun e => hk (h.G ▸ e)), h.opX k b hd hk]
theorem Sim.opB {s t : Va} (h : Sim s t) (k : Ky) (b : List UInt8) (hd : Nat) : opB s k b hd = opB t k b hd := by
 unfold Go.Proofs.YtolaojkcofbkhaaGreat.opB
 by_cases hk : k ∈ s.G
 · rw [if_pos hk, if_pos (h.G ▸ hk)]
 · rw [if_neg hk, if_neg (fun e => hk (h.G ▸ e)), h.opX k b hd hk]
theorem RVAt.gone {w w5 : World} {F : Nat → Prop} {g : Nat} {s : Va} {A : Option Addr} {c : Nat} {B : Option Addr} {d : Nat} (h : RVAt w F g s A c B d) (k : Ky) (hg5 : w.grownBy w5 (B.map (·.block))) {B5 : Option Addr} {d5 : Nat}
 (ho : KRow w5 B5 d5 (s.G ++ [k])) (hL : Lies B B5 w.heap.size) :
 RVLeft w (w5.setCell ⟨g, 1, none⟩ (.slice B5 (s.G ++ [k]).length d5)) F g ⟨s.L, s.G ++ [k]⟩ := by
 have hg6 := grown_setCell w5 g 1 (.slice B5 (s.G ++ [k]).length d5)
 have s5 := hg5.size
 have s6 := hg6.size
 have lg := h.F g h.Fg
 have k5 : ∀ j, j < w.heap.size → B.map (·.block) ≠ some j → w5.heap[j]? = w.heap[j]? := fun j hj hne => hg5.block j hj (fun e => hne e.symm)
 have k6 : ∀ j, j < w5.heap.size → j ≠ g → (w5.setCell ⟨g, 1, none⟩ (.slice B5 (s.G ++ [k]).length d5)).heap[j]? = w5.heap[j]? := fun j hj hne => hg6.block j hj (fun e => hne (by injection e))
 have B1 : ∀ b, B5.map (·.block) = some b → b ≠ g ∧ (F b ∨ w.heap.size ≤ b) ∧ b < w5.heap.size ∧ A.map (·.block) ≠ some b := fun b hb => by
  rcases hL b hb with e | e
  · exact ⟨(h.Bg b e).1, .inl (h.Bg b e).2, own_lt ho b hb, fun e2 => (h.Ag b e2).2.2 e⟩
  · exact ⟨by omega, .inr (by omega), own_lt ho b hb, fun e2 => by have := h.F b (h.Ag b e2).2.1; omega⟩
 refine ⟨fun j => (F j ∨ w.heap.size ≤ j) ∧ j < w5.heap.size, ⟨A, c, B5, d5, ?_, ?_, ?_, fun b hb' => ?_, fun b hb' => ?_, ⟨.inl h.Fg, by omega⟩, fun j hj => by have := hj.2; omega⟩, ?_, fun j hj => hj.1⟩
 · exact (h.blk.keep (k5 g lg (fun e => (h.Bg g e).1 rfl))).store 1 (.slice B5 (s.G ++ [k]).length d5)
 · exact own_keep h.row fun b hb' => by
    have := h.F b (h.Ag b hb').2.1
    exact (k6 b (by omega) (h.Ag b hb').1).trans (k5 b this (h.Ag b hb').2.2)
 · exact ho.keep fun b hb' => k6 b (own_lt ho b hb') (B1 b hb').1
 · have := h.F b (h.Ag b hb').2.1
   exact ⟨(h.Ag b hb').1, ⟨.inl (h.Ag b hb').2.1, by omega⟩, fun e => (B1 b e).2.2.2 hb'⟩
 · exact ⟨(B1 b hb').1, (B1 b hb').2.1, (B1 b hb').2.2.1⟩
 · exact ⟨hg6.os.trans hg5.os, hg6.tape.trans hg5.tape, hg6.output.trans hg5.output, by omega, fun j hj hF =>
    (k6 j (by omega) (fun e => hF (e ▸ h.Fg))).trans (k5 j hj fun e => hF (h.Bg j e).2)⟩
theorem RVt.new (w : World) : RVt (w.alloc (.cells #[.slice none 0 0, .slice none 0 0] 40)) (fun j => j = w.heap.size) w.heap.size Va.new :=
 ⟨none, 0, none, 0, Blk.new w 40 #[.slice none 0 0, .slice none 0 0], own_nilrow _ _ _ _, own_nilrow _ _ _ _, fun b hb => (by cases hb), fun b hb => (by cases hb), rfl, fun j hj => (by subst hj; simp)⟩
theorem filled_key (k : Ky) : Instr.fill (fun j => some (j * 3, 3)) ((Array.range (1 * 3)).map ((#[.int .i64 0, .int .i64 0, .int .i64 0] : Array Value)[· % 3]!)) [(0, (.agg #[.int .i64 (k).t, .int .i64 (k).c, .int .i64 (k).e]))] = some #[.int .i64 k.t, .int .i64 k.c, .int .i64 k.e] := by kernel_rfl
end Go.Proofs.YtolaojkcofbkhaaGreat
