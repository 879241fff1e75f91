/- What store.rooted, Open, Get, List and Free return. Nothing is assumed. -/
import Derived.Test.YtdkbpjkoiegflaaGreatStPd
namespace Go.Proofs.YtdkbpjkoiegflaaGreat
open Go.RowKit

/-- What the root tells of. -/
def roE (d : St) (v : Va) (c : Ce) : Int := if gtE d v c = 90 then 0 else if gtE d v c ≠ 0 then gtE d v c else if (parB (gtB d v c)).isSome then 0 else 91
theorem soE_of {d : St} {v : Va} {c : Ce} (h2 : 2 ≤ d.n) : (roE d v c ≠ 0 → soE d v c = roE d v c) ∧ (roE d v c = 0 → soE d v c = if ∀ x ∈ soL d v c, x.b < d.n then 0 else 91) := by
  have e2 : ¬ d.n < 2 := by omega
  unfold soE roE soL
  by_cases h : gtE d v c = 90
  · simp only [if_neg e2, if_pos h]
    exact ⟨fun e => absurd rfl e, fun _ => by rw [if_pos (fun x hx => by cases hx)]⟩
  · simp only [if_neg e2, if_neg h]
    by_cases h0 : gtE d v c ≠ 0
    · simp only [if_pos h0]
      exact ⟨fun _ => trivial, fun e => absurd e h0⟩
    · simp only [if_neg h0]
      cases hp : parB (gtB d v c) with
      | none => exact ⟨fun _ => rfl, fun e => by cases e⟩
      | some l => exact ⟨fun e => absurd rfl e, fun _ => rfl⟩
theorem soL_rgt (d : St) (v : Va) (c : Ce) : Rgt (soL d v c) ∧ ∀ x ∈ soL d v c, x.wf := by
  unfold soL
  by_cases h : gtE d v c = 90
  · rw [if_pos h]
    exact ⟨⟨fun x hx => (by cases hx), List.Pairwise.nil, by simp⟩, fun x hx => by cases hx⟩
  · rw [if_neg h]
    cases hp : parB (gtB d v c) with
    | none => exact ⟨⟨fun x hx => (by cases hx), List.Pairwise.nil, by simp⟩, fun x hx => by cases hx⟩
    | some l => exact ⟨(parB_back hp).2.1, (parB_back hp).2.2⟩
theorem rise_of {l : List Bb} (h : Rgt l) : l.Pairwise risen := h.2.1.imp fun e => e.2
/-- Blocks of the root alone. -/
theorem Rm.new {n : Nat} (h : 2 ≤ n) : Rm (Sp.new n 2) n [] :=
  ⟨tf_len n 2 h, rfl, fun i hi => by
    show (tf n 2)[i]? = _ ↔ _
    rw [tf_get n 2 i h hi]
    simp⟩
theorem Rm.fr {s : Sp} {n : Nat} {P : List Bb} (h : Rm s n P) {i : Nat} (h2 : 2 ≤ i) (hi : i < n) (hP : ∀ y ∈ P, y.b ≠ (i : Int)) : s.T[i]? = some false := by
  have hl : i < s.T.length := by rw [h.len]; exact hi
  have h1 := h.tk i hi
  rw [List.getElem?_eq_getElem hl] at h1 ⊢
  cases hb : s.T[i] with
  | false => rfl
  | true =>
    rw [hb] at h1
    rcases h1.1 rfl with e | ⟨x, hx, e⟩
    · omega
    · exact absurd e (hP x hx)
/-- A blob's block marked: one more, or there is no such block. -/
theorem Rm.mark {s : Sp} {n : Nat} {P : List Bb} (h : Rm s n P) {x : Bb} (h2 : 2 ≤ x.b) (hP : ∀ y ∈ P, y.b ≠ x.b) : (s.fr x.b = decide (x.b < (n : Int))) ∧ (x.b < (n : Int) → Rm (s.mark x.b) n (P ++ [x])) := by
  obtain ⟨i, hi⟩ : ∃ i : Nat, x.b = (i : Int) := ⟨x.b.toNat, by omega⟩
  rw [hi] at h2 hP ⊢
  by_cases hlt : i < n
  · have hf := h.fr (by omega) hlt hP
    have e := Sp.fr_in hf
    refine ⟨by rw [e]; simp; omega, fun _ => ?_⟩
    have em : s.mark (i : Int) = s.put i true := by unfold Sp.mark; rw [e]; rfl
    rw [em]
    refine ⟨by rw [Sp.put_len]; exact h.len, h.r, fun j hj => ?_⟩
    show (s.T.set i true)[j]? = _ ↔ _
    rw [List.getElem?_set]
    by_cases eij : i = j
    · subst eij
      rw [if_pos rfl, if_pos (by rw [h.len]; exact hlt)]
      exact ⟨fun _ => .inr ⟨x, by simp, hi⟩, fun _ => rfl⟩
    · rw [if_neg eij, h.tk j hj]
      constructor
      · rintro (a | ⟨y, a, b⟩)
        · exact .inl a
        · exact .inr ⟨y, by simp [a], b⟩
      · rintro (a | ⟨y, a, b⟩)
        · exact .inl a
        · rw [List.mem_append, List.mem_singleton] at a
          rcases a with a | a
          · exact .inr ⟨y, a, b⟩
          · subst a; omega
  · refine ⟨?_, fun e => by omega⟩
    rw [s.fr_out _ (by unfold Sp.hs; rw [h.len]; simp; omega)]
    simp; omega
section
variable {C : Ob → Ob} {w wr : World} {gd gv gc : Nat} {d : St} {v : Va} {c : Ce} {X : Nat → Prop}
set_option maxRecDepth 100000 in
set_option maxHeartbeats 2000000 in
theorem rooted_on (hC : Foc C) (hOk : ∀ P : Ob, P.Ok → (C P).Ok) (h : On w (C (TC gd d gv v gc c)) wr X) (hv : c.ver ≤ 500000) (hm : c.mark ≤ 600000) :
    Calls Tryz.prog 46 #[.pointer (some ⟨gd, 0, none⟩), .pointer (some ⟨gv, 0, none⟩), .pointer (some ⟨gc, 0, none⟩)] wr fun e w' => ∃ A n k, e = .returned (.tuple #[.slice A n k, .int .i64 (roE d v c)]) ∧ Below wr.heap.size wr w' ∧ (roE d v c = 0 → n = (soL d v c).length ∧ BRow 90 w' wr.heap.size A k (soL d v c)) := by
  have hc := get_on hC hOk h hv hm
  have HE : Hid (roE d v c = if gtE d v c = 90 then 0 else if gtE d v c ≠ 0 then gtE d v c else if (parB (gtB d v c)).isSome then 0 else 91) := hid rfl
  have HL : Hid (soL d v c = if gtE d v c = 90 then [] else (parB (gtB d v c)).getD []) := hid rfl
  clear h hOk hC
  generalize roE d v c = E at *
  generalize soL d v c = L at *
  generalize gtE d v c = E1 at *
  generalize gtB d v c = B1 at *
  go_enter Tryz.func46, Tryz.ntmps46
  go_wp2_with fail
  refine hc.mono ?_
  rintro e w1 ⟨A1, n1, k1, rfl, ho1, hn1, hb1⟩
  have HO1 := hid ho1
  have HB1 := hid hb1
  have HN1 := hid hn1
  clear hc ho1 hb1 hn1
  by_cases h90 : E1 = 90
  · subst h90
    have HE2 := hid (HE.out.trans (if_pos rfl))
    have HL2 := hid (HL.out.trans (if_pos rfl))
    clear HE HL
    go_wp2
    go_ret2
    exact ⟨none, 0, 0, by rw [HE2.out]; rfl, HB1.out, fun _ => by rw [HL2.out]; exact ⟨rfl, BRow.nil _ _ _⟩⟩
  · have HE2 := hid (HE.out.trans (if_neg h90))
    have HL2 := hid (HL.out.trans (if_neg h90))
    have z1 : (E1 == 90) = false := beq_eq_false_iff_ne.2 h90
    have z2 : decide (E1 = 90) = false := decide_eq_false h90
    clear HE HL
    by_cases h0 : E1 = 0
    · subst h0
      have HE3 := hid (HE2.out.trans (if_neg (fun e => e rfl)))
      have hp := parse_c A1 n1 k1 B1 w1 ((Bts.own HO1.out).wide (Nat.zero_le _) (Nat.le_refl _)) (by have := HN1.out; omega)
      clear HE2 z1 z2 h90
      go_wp2_with fail
      refine hp.mono ?_
      rintro e w2 ⟨A2, n2, k2, rfl, hn2, ho2, hb2⟩
      have HB2 := hid (HB1.out.trans (hb2.mono HB1.out.size))
      have HO2 := hid ho2
      have HN2 := hid hn2
      have HS2 := hid hb2.size
      clear hp hn2 ho2 hb2
      cases hpp : parB B1 with
      | none =>
        rw [hpp] at HE3
        have HE4 := hid (HE3.out.trans (if_neg (by simp)))
        simp only [Option.isSome_none]
        clear HE3
        go_wp2
        go_ret2
        exact ⟨none, 0, 0, by rw [HE4.out]; rfl, HB2.out, fun e => by rw [HE4.out] at e; cases e⟩
      | some l =>
        rw [hpp] at HE3 HL2 HO2 HN2
        have HE4 := hid (HE3.out.trans (if_pos rfl))
        simp only [Option.isSome_some]
        clear HE3
        go_wp2
        go_ret2
        refine ⟨A2, n2, k2, by rw [HE4.out]; rfl, HB2.out, fun _ => ⟨by rw [HL2.out]; exact HN2.out, ?_⟩⟩
        rw [HL2.out]
        exact ownsRow_base_a HO2.out HB1.out.size
    · have HE3 := hid (HE2.out.trans (if_pos h0))
      have y1 : (E1 == 0) = false := beq_eq_false_iff_ne.2 h0
      have y2 : decide (E1 = 0) = false := decide_eq_false h0
      have y3 : (E1 != 0) = true := by rw [bne, y1]; rfl
      have HNZ := hid h0
      clear HE2 h0 h90
      go_wp2
      go_ret2
      exact ⟨none, 0, 0, by rw [HE3.out]; rfl, HB1.out, fun e => by rw [HE3.out] at e; exact absurd e HNZ.out⟩
theorem soE_two {d : St} {v : Va} {c : Ce} (h : d.n < 2) : soE d v c = 2 := if_pos h
set_option maxRecDepth 100000 in
set_option maxHeartbeats 4000000 in
theorem sopen_on (hC : Foc C) (hOk : ∀ P : Ob, P.Ok → (C P).Ok) (h : On w (C (TC gd d gv v gc c)) wr X) (hv : c.ver ≤ 500000) (hm : c.mark ≤ 600000) :
    Calls Tryz.prog 15 #[.pointer (some ⟨gd, 0, none⟩), .pointer (some ⟨gv, 0, none⟩), .pointer (some ⟨gc, 0, none⟩)] wr fun e w' => ∃ p, e = .returned (.tuple #[.pointer p, .int .i64 (soE d v c)]) ∧ Below wr.heap.size wr w' ∧ (soE d v c ≠ 0 → p = none) ∧
      (soE d v c = 0 → ∃ gs G, p = some ⟨gs, 0, none⟩ ∧ StO gs gd gv gc d.n (soL d v c) false w' G ∧ ∀ j, G j → wr.heap.size ≤ j) := by
  obtain ⟨F, hdev0, _⟩ := h.at_ (hC.comp (tc_d gv v gc c))
  have hdev : Dev wr F gd d := hdev0
  have hbl := blocks_c wr F gd d hdev
  have hdok := hdev.ok
  have HN1 : Hid (1 ≤ d.n ∧ d.n ≤ 4096) := hid ⟨hdok.n1, hdok.n2⟩
  have hro := rooted_on hC hOk h hv hm
  have HBL : Hid (∀ w', Below wr.heap.size wr w' → Calls Tryz.prog 45 #[.pointer (some ⟨gd, 0, none⟩)] w' fun e w'' => e = .returned (.int .i64 (d.n : Int)) ∧ w' = w'') := hid fun w' hb => blocks_c w' F gd d (hdev.bel hb)
  have HS2 := hid (@soE_two d v c)
  have HS := hid (@soE_of d v c)
  have HRG := hid (soL_rgt d v c)
  clear hdev0 hdev hdok h hC hOk hv hm
  generalize soE d v c = SE at *
  generalize soL d v c = L at *
  generalize roE d v c = RE at *
  generalize d.n = n at *
  go_enter Tryz.func15, Tryz.ntmps15
  go_wp2_with fail
  refine hbl.mono ?_
  rintro e w' ⟨rfl, rfl⟩
  clear hbl
  rcases Nat.lt_or_ge n 2 with h2 | h2
  · have HE := hid (HS2.out h2)
    have m1 : decide ((n : Int) < 2) = true := decide_eq_true (by omega)
    have m2 : decide (n < 2) = true := decide_eq_true h2
    clear hro h2
    go_wp2
    go_ret2
    exact ⟨none, by rw [HE.out]; rfl, Below.refl _ _, fun _ => rfl, fun e => by rw [HE.out] at e; cases e⟩
  have m1 : decide ((n : Int) < 2) = false := decide_eq_false (by omega)
  have m2 : decide (n < 2) = false := decide_eq_false (by omega)
  have HN2 := hid h2
  have HS3 := hid (HS.out h2)
  clear h2 HS HS2
  go_wp2_with fail
  clear m1 m2
  refine hro.mono ?_
  rintro e w1 ⟨A1, n1, k1, rfl, hb1, hr1⟩
  have HB1 := hid hb1
  have HR1 := hid hr1
  clear hro hb1 hr1
  by_cases h0 : RE = 0
  case neg =>
    have HE := hid (HS3.out.1 h0)
    have y1 : (RE == 0) = false := beq_eq_false_iff_ne.2 h0
    have y2 : decide (RE = 0) = false := decide_eq_false h0
    have y3 : (RE != 0) = true := by rw [bne, y1]; rfl
    have HNZ := hid h0
    clear h0
    go_wp2
    go_ret2
    exact ⟨none, by rw [HE.out]; rfl, HB1.out, fun _ => rfl, fun e => by rw [HE.out] at e; exact absurd e HNZ.out⟩
  have HE := hid (HS3.out.2 h0)
  obtain ⟨hn1, hrow⟩ := HR1.out h0
  subst h0
  have HLN := hid hn1
  have HROW := hid hrow
  have hb2 := HBL.out w1 HB1.out
  have hnew := snew_c (n : Int) 2 n 2 rfl rfl w1 HN1.out.1 HN1.out.2 HN2.out
  clear hn1 hrow HR1 HS3 HBL
  go_wp2_with fail
  refine hb2.mono ?_
  rintro e w' ⟨rfl, rfl⟩
  go_wp2_with fail
  refine hnew.mono ?_
  rintro e w2 ⟨rb, k, rfl, hmp, hb2', hrb, hk⟩
  have HMP := hid hmp
  have HB2 := hid hb2'
  have HRB := hid hrb
  have HKB := hid hk
  clear hb2 hnew hmp hb2' hrb hk
  have hmm := fun (m : Int) (w : World) => run_makeMapN Tryz.underlying122 m w
  go_wp2_with fail
  clear hmm
  have hb3 : Below w2.heap.size w2 ((w2.alloc (.map #[] 0)).alloc (.cells (soCells gd gv gc w2.heap.size rb false) 124)) := ((Below.refl w2.heap.size w2).alloc (Nat.le_refl _) _).alloc (by simp) _
  have hse : (w2.alloc (.map #[] 0)).heap.size = w2.heap.size + 1 := by simp
  have HSO : Hid (SoB ((w2.alloc (.map #[] 0)).alloc (.cells (soCells gd gv gc w2.heap.size rb false) 124)) (w2.heap.size + 1) gd gv gc n (L.take 0) false w2.heap.size rb k (Sp.new n 2)) := hid ⟨by
    have := Blk.new (w2.alloc (.map #[] 0)) 124 (soCells gd gv gc w2.heap.size rb false)
    rwa [hse] at this, (BMp.made w2).bel ((Below.refl _ _).alloc (Nat.le_refl _) _), HMP.out.bel hb3, Rm.new HN2.out⟩
  have HB3 := hid (HB2.out.trans (hb3.mono HB2.out.size))
  have HGS : Hid (w1.heap.size ≤ w2.heap.size) := hid HB2.out.size
  clear hb3 hse HMP HB2
  have hw3 : (w2.alloc (.map #[] 0)).alloc (.cells #[.pointer (some ⟨gd, 0, none⟩), .pointer (some ⟨gv, 0, none⟩), .pointer (some ⟨gc, 0, none⟩), .map (some w2.heap.size), .pointer (some ⟨rb, 0, none⟩), .bool false] 124) = (w2.alloc (.map #[] 0)).alloc (.cells (soCells gd gv gc w2.heap.size rb false) 124) := rfl
  rw [hw3]
  clear hw3
  generalize (w2.alloc (.map #[] 0)).alloc (.cells (soCells gd gv gc w2.heap.size rb false) 124) = w3 at *
  generalize w2.heap.size = mb at *
  go_loopg [57] n1 (fun kk iv wr => ∃ (j : Nat) (s : Sp), iv = .int .i64 (j : Int) ∧ Hid (kk = n1 - j) ∧ Hid (j ≤ n1) ∧ Hid (∀ x ∈ L.take j, x.b < (n : Int)) ∧ Hid (SoB wr (mb + 1) gd gv gc n (L.take j) false mb rb k s) ∧ Hid (Below w1.heap.size w1 wr))
  case atStart => exact ⟨0, Sp.new n 2, rfl, hid (by omega), hid (Nat.zero_le _), hid (fun x hx => by simp at hx), HSO, HB3⟩
  case round =>
  obtain ⟨j, s, rfl, hgk, hj, hin, hS, hB⟩ := hrel
  clear HSO HB3
  rcases Nat.lt_or_ge j n1 with hlt | hge
  · have HJN := hid hlt
    have hjl : j < L.length := by rw [← HLN.out]; exact hlt
    have j1 : (0 : Int) ≤ (j : Int) := by omega
    have j2 : (j : Int) < (n1 : Int) := by omega
    have j3 : decide ((j : Int) < (n1 : Int)) = true := by simpa using hlt
    have j4 : decide (j < n1) = true := by simpa using hlt
    have wj : wrap64 ((j : Int) + 1) = ((j + 1 : Nat) : Int) := by have := HRG.out.1.2.2; unfold wrap64; omega
    obtain ⟨lb, hA, hbl, hr0⟩ := HROW.out.elem hjl
    have hr1 := rangeAt_keep hr0 (hB.out.block lb hbl)
    have HXM := hid (List.getElem_mem hjl)
    have HTK := hid (List.take_succ_eq_append_getElem hjl)
    have HPW : Hid (∀ y ∈ L.take j, risen y L[j] ∧ y.b ≠ L[j].b) := hid (fun y hy => by
      obtain ⟨q, hq, rfl⟩ := List.mem_take_iff_getElem.1 hy
      have := List.pairwise_iff_getElem.1 HRG.out.1.2.1 q j (by omega) hjl (by omega)
      exact ⟨this.2, this.1⟩)
    generalize L[j] = x at *
    have HXO := hid (HRG.out.1.1 x HXM.out)
    obtain ⟨c0, c1, c2, c3, c4, c5, c6, c7, c8, c9, c10⟩ := range11 hr1
    have hb2 : Below wr.heap.size wr (wr.alloc (.cells #[.string (str (x).nm), .int .i64 (x).k.t, .int .i64 (x).k.c, .int .i64 (x).k.e, .int .i64 (x).b, .int .i64 (x).p.k.t, .int .i64 (x).p.k.c, .int .i64 (x).p.k.e, .int .i64 (x).p.id, .int .i64 (x).p.ver, .int .i64 (x).sz] 90)) := (Below.refl _ _).alloc (Nat.le_refl _) _
    have hS2 := hS.out.bel hb2
    have HB2 := hid (hB.out.trans (hb2.mono hB.out.size))
    have HS2 := hid hS2
    have hk2 := Blk.new wr 90 #[.string (str (x).nm), .int .i64 (x).k.t, .int .i64 (x).k.c, .int .i64 (x).k.e, .int .i64 (x).b, .int .i64 (x).p.k.t, .int .i64 (x).p.k.c, .int .i64 (x).p.k.e, .int .i64 (x).p.id, .int .i64 (x).p.ver, .int .i64 (x).sz]
    have HK2 := hid hk2
    obtain ⟨x0, x1, x2, x3, x4, x5, x6, x7, x8, x9, x10⟩ := bbB_cells (x := x) hk2
    have hmk := mark_any _ rb k s hS2.room x.b
    obtain ⟨e1, e2⟩ := hS2.rm.mark (x := x) (by have := HXO.out.2.2.2.2.2.2.2.1; omega) (fun y hy => (HPW.out y hy).2)
    rw [e1] at hmk
    have HRM := hid e2
    have HLTS : Hid ((mb + 1) < wr.heap.size ∧ mb < wr.heap.size ∧ rb < wr.heap.size ∧ k < wr.heap.size) := hid hS.out.lt
    subst hA
    clear hlt hjl hbl hr0 hr1 hb2 hS2 hk2 e1 e2 hS hB
    by_cases hbn : x.b < (n : Int)
    · rw [decide_eq_true hbn] at hmk
      have HIN : Hid (∀ y ∈ L.take (j + 1), y.b < (n : Int)) := hid (fun y hy => by
        rw [HTK.out, List.mem_append, List.mem_singleton] at hy
        rcases hy with hy | hy
        · exact hin.out y hy
        · rw [hy]; exact hbn)
      have HRM2 := hid (HRM.out hbn)
      clear hbn HRM hin
      go_wp2_with fail
      refine hmk.mono ?_
      rintro e w5 ⟨rfl, hML⟩
      obtain ⟨n1', n2', n3', n4', n5', n6'⟩ := HS2.out.ne
      have HNE : Hid (mb ≠ mb + 1 ∧ rb ≠ mb + 1 ∧ k ≠ mb + 1 ∧ mb ≠ rb ∧ mb ≠ k ∧ rb ≠ k) := hid ⟨n1', n2', n3', n4', n5', n6'⟩
      have HBK5 := hid (HS2.out.blk.keep (hML.2.block _ HS2.out.lt.1 (fun e => n3' e.symm)))
      have HMB5 := hid (HS2.out.map.keep (hML.2.block _ HS2.out.lt.2.1 n5'))
      have HMP5 := hid hML.1
      have HX5 : Hid (Blk w5 wr.heap.size 90 #[.string (str (x).nm), .int .i64 (x).k.t, .int .i64 (x).k.c, .int .i64 (x).k.e, .int .i64 (x).b, .int .i64 (x).p.k.t, .int .i64 (x).p.k.c, .int .i64 (x).p.k.e, .int .i64 (x).p.id, .int .i64 (x).p.ver, .int .i64 (x).sz]) := hid (HK2.out.keep (hML.2.block _ HK2.out.lt (by have := HLTS.out; omega)))
      have HB5 := hid (HB2.out.trans (hML.2.below (B := w1.heap.size) (fun q hq => by subst hq; exact HKB.out) HB2.out.size))
      clear hmk hML HS2 HB2 HK2 x0 x1 x2 x3 x4 x5 x6 x7 x8 x9 x10 c0 c1 c2 c3 c4 c5 c6 c7 c8 c9 c10 n1' n2' n3' n4' n5' n6'
      generalize wr.heap.size = bx at *
      go_wp2_with fail
      have HBK6 : Hid (Blk w5.drew (mb + 1) 124 (soCells gd gv gc mb rb false)) := hid HBK5.out
      have HMB6 : Hid (BMp w5.drew mb (L.take j)) := hid (HMB5.out.keep rfl)
      have HMP6 : Hid (Mp w5.drew rb k (s.mark x.b)) := hid (HMP5.out.keep rfl rfl)
      have HX6 : Hid (Blk w5.drew bx 90 #[.string (str (x).nm), .int .i64 (x).k.t, .int .i64 (x).k.c, .int .i64 (x).k.e, .int .i64 (x).b, .int .i64 (x).p.k.t, .int .i64 (x).p.k.c, .int .i64 (x).p.k.e, .int .i64 (x).p.id, .int .i64 (x).p.ver, .int .i64 (x).sz]) := hid HX5.out
      have HB6 := hid HB5.out.drew
      clear HBK5 HMB5 HMP5 HX5 HB5
      refine wp_region_held_drew (S := fun wx => wx.cell? ⟨mb + 1, 3, none⟩ = some (.map (some mb)) ∧ Blk wx bx 90 #[.string (str (x).nm), .int .i64 (x).k.t, .int .i64 (x).k.c, .int .i64 (x).k.e, .int .i64 (x).b, .int .i64 (x).p.k.t, .int .i64 (x).p.k.c, .int .i64 (x).p.k.e, .int .i64 (x).p.id, .int .i64 (x).p.ver, .int .i64 (x).sz]) (by kernel_rfl) ⟨(HBK6.out.cell 3).trans rfl, HX6.out⟩ (fun HS => ?_)
      generalize w5.drew = w6 at *
      refine wpAnyH_take (i := 0) (oi := ?oi0) (v := ?v0) ?hi0 (by kernel_rfl) (by kernel_rfl) (by kernel_rfl) ?hQ0 ?hy0 HS ?rest0
      case hi0 => simp only [List.getElem?_toArray, List.getElem?_cons_zero]; exact rfl
      case hQ0 => exact fun _ _ _ h => h
      case hy0 =>
        refine Or.inl ⟨by rfl, ?_⟩
        intro wS hSw
        have y3 := hSw.1
        go_simp
        try with_reducible rfl
      try simp only [Act.put, List.setIfInBounds_toArray, List.set_cons_zero, List.set_cons_succ]
      refine wpAnyH_take (i := 1) (oi := ?oi1) (v := ?v1) ?hi1 (by kernel_rfl) (by kernel_rfl) (by kernel_rfl) ?hQ1 ?hy1 HS ?rest1
      case hi1 => simp only [List.getElem?_toArray, List.getElem?_cons_succ, List.getElem?_cons_zero]; exact rfl
      case hQ1 => exact fun _ _ _ h => h
      case hy1 =>
        refine Or.inl ⟨by rfl, ?_⟩
        intro wS hSw
        have y3 := hSw.1
        go_simp
        try with_reducible rfl
      try simp only [Act.put, List.setIfInBounds_toArray, List.set_cons_zero, List.set_cons_succ]
      refine wpAnyH_take (i := 2) (oi := ?oi2) (v := ?v2) ?hi2 (by kernel_rfl) (by kernel_rfl) (by kernel_rfl) ?hQ2 ?hy2 HS ?rest2
      case hi2 => simp only [List.getElem?_toArray, List.getElem?_cons_succ, List.getElem?_cons_zero]; exact rfl
      case hQ2 => exact fun _ _ _ h => h
      case hy2 =>
        refine Or.inl ⟨by rfl, ?_⟩
        intro wS hSw
        have y3 := hSw.1
        go_simp
        try with_reducible rfl
      try simp only [Act.put, List.setIfInBounds_toArray, List.set_cons_zero, List.set_cons_succ]
      refine wpAnyH_take (i := 3) (oi := ?oi3) (v := ?v3) ?hi3 (by kernel_rfl) (by kernel_rfl) (by kernel_rfl) ?hQ3 ?hy3 HS ?rest3
      case hi3 => simp only [List.getElem?_toArray, List.getElem?_cons_succ, List.getElem?_cons_zero]; exact rfl
      case hQ3 => exact fun _ _ _ h => h
      case hy3 =>
        refine Or.inl ⟨by rfl, ?_⟩
        intro wS hSw
        have y3 := hSw.1
        go_simp
        try with_reducible rfl
      try simp only [Act.put, List.setIfInBounds_toArray, List.set_cons_zero, List.set_cons_succ]
      refine wpAnyH_take (i := 4) (oi := ?oi4) (v := ?v4) ?hi4 (by kernel_rfl) (by kernel_rfl) (by kernel_rfl) ?hQ4 ?hy4 HS ?rest4
      case hi4 => simp only [List.getElem?_toArray, List.getElem?_cons_succ, List.getElem?_cons_zero]; exact rfl
      case hQ4 => exact fun _ _ _ h => h
      case hy4 =>
        refine Or.inl ⟨by rfl, ?_⟩
        intro wS hSw
        have y3 := hSw.1
        go_simp
        try with_reducible rfl
      try simp only [Act.put, List.setIfInBounds_toArray, List.set_cons_zero, List.set_cons_succ]
      refine wpAnyH_take (i := 5) (oi := ?oi5) (v := ?v5) ?hi5 (by kernel_rfl) (by kernel_rfl) (by kernel_rfl) ?hQ5 ?hy5 HS ?rest5
      case hi5 => simp only [List.getElem?_toArray, List.getElem?_cons_succ, List.getElem?_cons_zero]; exact rfl
      case hQ5 => exact fun _ _ _ h => h
      case hy5 =>
        refine Or.inl ⟨by rfl, ?_⟩
        intro wS hSw
        have y3 := (bbB_cells (x := x) hSw.2).1
        go_simp
        try with_reducible rfl
      try simp only [Act.put, List.setIfInBounds_toArray, List.set_cons_zero, List.set_cons_succ]
      refine wpAnyH_take (i := 6) (oi := ?oi6) (v := ?v6) ?hi6 (by kernel_rfl) (by kernel_rfl) (by kernel_rfl) ?hQ6 ?hy6 HS ?rest6
      case hi6 => simp only [List.getElem?_toArray, List.getElem?_cons_succ, List.getElem?_cons_zero]; exact rfl
      case hQ6 => exact fun _ _ _ h => h
      case hy6 =>
        refine Or.inl ⟨by rfl, ?_⟩
        intro wS hSw
        refine Eq.trans (exec_loadB (.tmp 13) ?_ ?_ hSw.2) ?_
        all_goals rfl
      try simp only [Act.put, List.setIfInBounds_toArray, List.set_cons_zero, List.set_cons_succ]
      refine wpAnyH_ready (rs := [7]) (by kernel_rfl) (by simp) ?_
      refine AllReadyH.cons (o := ?o7) ?ho7 (fun K hK => ?step7) AllReadyH.nil
      case ho7 => simp only [List.getElem?_toArray, List.getElem?_cons_succ, List.getElem?_cons_zero]; exact rfl
      refine wp_bmPut _ _ _ rfl HMB6.out rfl x rfl rfl (by have := HXO.out.1.2; unfold maxLen; omega) (by have := HRG.out.1.2.2; have : (L.take j).length ≤ L.length := List.length_take_le' _ _; unfold maxLen; omega) ?_
      intro w7 hB7 hg7
      refine hK.out _ _ ⟨((HBK6.out.keep (hg7.block _ HBK6.out.lt (by simp))).cell 3).trans rfl, HX6.out.keep (hg7.block _ HX6.out.lt (by have := HLTS.out; simp; omega))⟩ (fun HS => ?_)
      clear hK K
      try simp only [Act.put]
      refine wpAnyH_done (by kernel_rfl) ?_ _
      clear HS
      have HMB7 : Hid (BMp w7 mb (L.take (j + 1))) := hid (by rw [HTK.out, ← with_end (fun y hy => (HPW.out y hy).1)]; exact hB7)
      have HSO7 : Hid (SoB w7 (mb + 1) gd gv gc n (L.take (j + 1)) false mb rb k (s.mark x.b)) := hid ⟨HBK6.out.keep (hg7.block _ HBK6.out.lt (by have := HNE.out; simp)), HMB7.out, HMP6.out.keep (hg7.block _ HMP6.out.blk.lt (by have := HNE.out; simp; omega)) (hg7.block _ HMP6.out.row.lt (by have := HNE.out; simp; omega)), by rw [HTK.out]; exact HRM2.out⟩
      have HB7 := hid (HB6.out.grown hg7 HB6.out.size (fun q hq => by injection hq with hq; have := HGS.out; omega))
      clear hB7 hg7 HBK6 HMB6 HMP6 HX6 HB6 HMB7
      go_wp2_with fail
      go_roundg (n1 - (j + 1))
      case measure => have := hgk.out; have := HJN.out; omega
      case rel => exact ⟨j + 1, s.mark x.b, by first | rfl | rw [wj], hid rfl, hid HJN.out, HIN, HSO7, HB7⟩
    · rw [decide_eq_false hbn] at hmk
      have HE2 : Hid (SE = 91) := hid (by rw [HE.out, if_neg]; exact fun e => hbn (e x HXM.out))
      clear hbn HRM
      go_wp2_with fail
      refine hmk.mono ?_
      rintro e w5 ⟨rfl, hML⟩
      have HB5 := hid (HB2.out.trans (hML.2.below (B := w1.heap.size) (fun q hq => by subst hq; exact HKB.out) HB2.out.size))
      clear hmk hML HS2 HB2 HK2 x0 x1 x2 x3 x4 x5 x6 x7 x8 x9 x10 c0 c1 c2 c3 c4 c5 c6 c7 c8 c9 c10
      go_wp2
      go_ret2
      exact ⟨none, by rw [HE2.out]; rfl, HB1.out.trans (HB5.out.mono HB1.out.size), fun _ => rfl, fun e => by rw [HE2.out] at e; cases e⟩
  · have hjn : j = n1 := by have := hj.out; omega
    subst hjn
    have j2 : ¬ (j : Int) < (j : Int) := by omega
    have HT : Hid (L.take j = L) := hid (by rw [HLN.out, List.take_length])
    have HE2 : Hid (SE = 0) := hid (by rw [HE.out, if_pos]; rw [← HT.out]; exact hin.out)
    have HSL : Hid (SoB wr (mb + 1) gd gv gc n L false mb rb k s) := hid (by have := hS.out; rwa [HT.out] at this)
    clear hge hj hgk hin hS
    go_wp2
    go_ret2
    refine ⟨some ⟨mb + 1, 0, none⟩, by rw [HE2.out]; rfl, HB1.out.trans (hB.out.mono HB1.out.size), fun e => absurd HE2.out e, fun _ => ⟨mb + 1, rfl, fun q => q = mb + 1 ∨ q = mb ∨ q = rb ∨ q = k, ⟨mb, rb, k, s, HSL.out, fun _ => Iff.rfl⟩, fun q hq => ?_⟩⟩
    have h1 := HB1.out.size
    have h2 := HGS.out
    have h3 := HRB.out
    have h4 := HKB.out
    rcases hq with rfl | rfl | rfl | rfl <;> omega
end
end Go.Proofs.YtdkbpjkoiegflaaGreat
