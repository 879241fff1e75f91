import Derived.Test.YtolaojkcofbkhaaGreatRsQ
import Derived.Test.YtolaojkcofbkhaaGreatRtR
import Derived.Test.YtolaojkcofbkhaaGreatRtRows
import Derived.Test.YtolaojkcofbkhaaGreatStGl
namespace Go.Proofs.YtolaojkcofbkhaaGreat
set_option maxRecDepth 100000
set_option maxHeartbeats 16000000
open Go.RowKit
structure RSoB (w : World) (gs ge gw gz : Nat) (L : List Bb) (dn : Bool) (B : Option Addr) (c : Nat) : Prop where
 blk : Blk w gs 74 #[.pointer (some ⟨ge, 0, none⟩), .pointer (some ⟨gw, 0, none⟩), .pointer (some ⟨gz, 0, none⟩), .slice B L.length c, .bool dn]
 row : BRow 90 w 0 B c L
 ne : ∀ b, B.map (·.block) = some b → b ≠ gs
def RStO (gs ge gw gz : Nat) (L : List Bb) (dn : Bool) : Ob := fun w F => ∃ B c, RSoB w gs ge gw gz L dn B c ∧ ∀ j, F j ↔ j = gs ∨ B.map (·.block) = some j
section
variable {w w' : World} {gs ge gw gz c : Nat} {L : List Bb} {dn : Bool} {B : Option Addr}
theorem RSoB.keep (h : RSoB w gs ge gw gz L dn B c) (h1 : w'.heap[gs]? = w.heap[gs]?) (h2 : ∀ b, B.map (·.block) = some b → w'.heap[b]? = w.heap[b]?) : RSoB w' gs ge gw gz L dn B c := ⟨h.blk.keep h1, own_keep h.row h2, h.ne⟩
theorem RSoB.bel (h : RSoB w gs ge gw gz L dn B c) (hb : Below w.heap.size w w') : RSoB w' gs ge gw gz L dn B c := h.keep (hb.block _ h.blk.lt) fun b e => hb.block b (own_lt h.row b e)
theorem RStO.ok (gs ge gw gz : Nat) (L : List Bb) (dn : Bool) : (RStO gs ge gw gz L dn).Ok := by
 refine ⟨?_, ?_⟩
 · rintro w w' F ⟨B, c, h, hF⟩ _ hk
   exact ⟨B, c, h.keep (hk _ ((hF _).2 (.inl rfl))) fun b e => hk b ((hF b).2 (.inr e)), hF⟩
 · rintro w F ⟨B, c, h, hF⟩ j hj
   rcases (hF j).1 hj with rfl | e
   · exact h.blk.lt
   · exact own_lt h.row j e
theorem RSoB.cells (h : RSoB w gs ge gw gz L dn B c) : w.cell? ⟨gs, 0, none⟩ = some (.pointer (some ⟨ge, 0, none⟩)) ∧ w.cell? ⟨gs, 1, none⟩ = some (.pointer (some ⟨gw, 0, none⟩)) ∧ w.cell? ⟨gs, 2, none⟩ = some (.pointer (some ⟨gz, 0, none⟩)) ∧ w.cell? ⟨gs, 3, none⟩ = some (.slice B L.length c) ∧ w.cell? ⟨gs, 4, none⟩ = some (.bool dn) :=
 ⟨(h.blk.cell 0).trans rfl, (h.blk.cell 1).trans rfl, (h.blk.cell 2).trans rfl, (h.blk.cell 3).trans rfl, (h.blk.cell 4).trans rfl⟩
end
def RS (ge : Nat) (d : St) (gw : Nat) (t : Va) (gz : Nat) (c : Ce) (gs : Nat) (L : List Bb) (dn : Bool) : Ob := (TR ge d gw t gz c).and (RStO gs ge gw gz L dn)
theorem RS.ok (ge : Nat) (d : St) (gw : Nat) (t : Va) (gz : Nat) (c : Ce) (gs : Nat) (L : List Bb) (dn : Bool) : (RS ge d gw t gz c gs L dn).Ok := (TR.ok _ _ _ _ _ _).and (RStO.ok _ _ _ _ _ _)
theorem rs_t (gs ge gw gz : Nat) (L : List Bb) (dn : Bool) : Foc fun P => P.and (RStO gs ge gw gz L dn) := Foc.one Foc.self (RStO.ok _ _ _ _ _ _)
theorem rs_s (ge : Nat) (d : St) (gw : Nat) (t : Va) (gz : Nat) (c : Ce) : Foc fun P => (TR ge d gw t gz c).and P := Foc.two Foc.self (TR.ok _ _ _ _ _ _)
theorem rso_at {C : Ob → Ob} {w wr : World} {X : Nat → Prop} {gs ge gw gz : Nat} {L : List Bb} {dn : Bool} (hC : Foc C) (h : On w (C (RStO gs ge gw gz L dn)) wr X) : ∃ B c, RSoB wr gs ge gw gz L dn B c := by
 obtain ⟨F, ⟨B, c, h1, _⟩, _⟩ := h.at_ hC
 exact ⟨B, c, h1⟩
theorem rgone9_c (w : World) (F : Nat → Prop) (g : Nat) (s : Va) (h : RVt w F g s) (k : Ky) (hG : s.G.length ≤ 1000000) :
 Calls Tryz.prog 57 #[.pointer (some ⟨g, 0, none⟩), (.agg #[.int .i64 (k).t, .int .i64 (k).c, .int .i64 (k).e])] w fun e w' => e = .returned (.bool (decide (k ∈ s.G))) ∧ Below w.heap.size w w' := by
 obtain ⟨A, c, B, d, h⟩ := h
 have hb0 : Below w.heap.size w (w.alloc (.cells #[.int .i64 k.t, .int .i64 k.c, .int .i64 k.e] 54)) := (Below.refl _ _).alloc (nl _) _
 have hK0 := Blk.new w 54 #[.int .i64 k.t, .int .i64 k.c, .int .i64 k.e]
 have g1 := (h.bel hb0).cells.2
 have HH := hid h
 have HB0 := hid hb0
 have HK0 := hid hK0
 have HG := hid hG
 clear h hb0 hK0 hG
 go_enter Tryz.func57, Tryz.ntmps57
 go_wp2_with fail
 clear g1
 generalize hn : s.G.length = n at *
 have HNN := hid hn
 clear hn
 go_loopg [12] n (fun kk iv wr => ∃ (j : Nat), iv = .int .i64 (j : Int) ∧ Hid (kk = n - j) ∧ Hid (j ≤ n) ∧ Hid (Blk wr w.heap.size 54 #[.int .i64 k.t, .int .i64 k.c, .int .i64 k.e]) ∧ Hid (Below w.heap.size w wr) ∧ Hid (∀ i, ∀ hi : i < s.G.length, i < j → s.G[i] ≠ k))
 case atStart => exact ⟨0, rfl, hid (by omega), hid (Nat.zero_le _), HK0, HB0, hid (fun i _ hi => absurd hi (by omega))⟩
 case round =>
  obtain ⟨j, rfl, hgk, hj, hK, hB, hno⟩ := hrel
  clear HB0 HK0
  rcases Nat.lt_or_ge j n with hlt | hge
  · have HLT := hid hlt
    obtain ⟨b, rfl, hbl, hr0⟩ := (HH.out.bel hB.out).gon.elem (j := j) (by rw [HNN.out]; exact HLT.out)
    have HQR := hid hr0
    have j1 : (0 : Int) ≤ (j : Int) := by omega
    have j2 : (j : Int) < (n : Int) := by omega
    have j3 : decide ((j : Int) < (n : Int)) = true := by simpa using hlt
    have j4 : decide (j < n) = true := by simpa using hlt
    have wj : wrap64 ((j : Int) + 1) = ((j + 1 : Nat) : Int) := by have := HG.out; unfold wrap64; omega
    generalize hq : s.G[j]'(by rw [HNN.out]; exact HLT.out) = q at *
    have HQE := hid hq
    have hb2 : Below wr.heap.size wr (wr.alloc (.cells #[.int .i64 q.t, .int .i64 q.c, .int .i64 q.e] 54)) := (Below.refl _ _).alloc (nl _) _
    have hK2 := hK.out.keep (hb2.block w.heap.size hK.out.lt)
    obtain ⟨c0, c1, c2⟩ := blk_cells hK2
    have HK2 := hid hK2
    have HB2 := hid (hB.out.trans (hb2.mono hB.out.size))
    have heq := eq_key q k
    clear hr0 hbl hq hb2 hK2 hlt hK hB
    by_cases hqk : q = k
    · rw [decide_eq_true hqk] at heq
      have HE : Hid (decide (k ∈ s.G) = true) := hid (decide_eq_true (by rw [← hqk, ← HQE.out]; exact List.getElem_mem _))
      clear hqk
      as_aux_lemma =>
      go_wp2_with (refine wpList_load_mid rfl 54 _ rfl b (j * 3) rfl [.int .i64 q.t, .int .i64 q.c, .int .i64 q.e] _ HQR.out Tryz.underlying54 rfl Tryz.infoKey ?_)
      go_ret
      exact ⟨by rw [HE.out]; rfl, HB2.out⟩
    · rw [decide_eq_false hqk] at heq
      have HNO : Hid (∀ i, ∀ hi : i < s.G.length, i < j + 1 → s.G[i] ≠ k) := hid (fun i hi hij => by
       by_cases e : i = j
       · subst e; rw [HQE.out]; exact hqk
       · exact hno.out i hi (by omega))
      clear hqk
      as_aux_lemma =>
      go_wp2_with (refine wpList_load_mid rfl 54 _ rfl b (j * 3) rfl [.int .i64 q.t, .int .i64 q.c, .int .i64 q.e] _ HQR.out Tryz.underlying54 rfl Tryz.infoKey ?_)
      go_roundg (n - (j + 1))
      case measure => have := hgk.out; have := HLT.out; omega
      case rel => exact ⟨j + 1, congrArg (Value.int .i64) (by first | exact wj | omega | rfl), hid rfl, hid (by have := HLT.out; omega), HK2, HB2, HNO⟩
  · have j3 : decide ((j : Int) < (n : Int)) = false := by simp; omega
    have j4 : decide (j < n) = false := by simp; omega
    have HE : Hid (decide (k ∈ s.G) = false) := hid (decide_eq_false (fun e => by
     obtain ⟨i, hi, he⟩ := List.getElem_of_mem e
     exact hno.out i hi (by have := HNN.out; omega) he))
    clear hge hgk hj
    as_aux_lemma =>
    go_wp2
    go_ret
    exact ⟨by rw [HE.out]; rfl, hB.out⟩
theorem rgone9_on {C : Ob → Ob} {w wr : World} {X : Nat → Prop} {gw : Nat} {t : Va} (hC : Foc C) (h : On w (C (RVtO gw t)) wr X) (k : Ky) (hG : t.G.length ≤ 1000000) :
 Calls Tryz.prog 57 #[.pointer (some ⟨gw, 0, none⟩), (.agg #[.int .i64 (k).t, .int .i64 (k).c, .int .i64 (k).e])] wr fun e w' => e = .returned (.bool (decide (k ∈ t.G))) ∧ Below wr.heap.size wr w' := by
 obtain ⟨F, h1, _⟩ := h.at_ hC
 exact rgone9_c wr F gw t h1 k hG
def fr9 (L : List Bb) (i : Nat) : List Nat := (List.range' 2 (i - 2)).filter fun q => L.all fun x => decide (x.b ≠ (q : Int))
theorem fr9_snoc (L : List Bb) {i : Nat} (hi : 2 ≤ i) : fr9 L (i + 1) = fr9 L i ++ if (L.all fun x => decide (x.b ≠ (i : Int))) = true then [i] else [] := by
 obtain ⟨m, rfl⟩ : ∃ m, i = 2 + m := ⟨i - 2, by omega⟩
 unfold fr9
 rw [show 2 + m + 1 - 2 = m + 1 by omega, show 2 + m - 2 = m by omega, List.range'_1_concat, List.filter_append]
 congr 1
 by_cases h : (L.all fun x => decide (x.b ≠ ((2 + m : Nat) : Int))) = true
 · rw [if_pos h, List.filter_cons, if_pos h]; rfl
 · rw [if_neg h, List.filter_cons, if_neg h]; rfl
theorem fr9_len (L : List Bb) (i : Nat) : (fr9 L i).length ≤ i := Nat.le_trans (List.length_filter_le _ _) (by rw [List.length_range']; omega)
def ni9 (l : List Nat) : List Value := l.map fun (x : Nat) => Value.int .i64 (x : Int)
theorem ni9_app (a b : List Nat) : ni9 (a ++ b) = ni9 a ++ ni9 b := by simp [ni9]
theorem all_take (L : List Bb) (i : Int) {j : Nat} (hj : j < L.length) : ((L.take (j + 1)).all fun x => decide (x.b ≠ i)) = (((L.take j).all fun x => decide (x.b ≠ i)) && decide (L[j].b ≠ i)) := by
 rw [List.take_succ_eq_append_getElem hj, List.all_append]
 simp
section
variable {C : Ob → Ob} {w wr : World} {X : Nat → Prop} {ge gw gz gs : Nat} {d : St} {t : Va} {c : Ce} {L : List Bb} {dn : Bool}
theorem rdk_at (hC : Foc C) (h : On w (C (RDvO ge d)) wr X) : ∃ kb kc, wr.cell? ⟨ge, 0, none⟩ = some (.slice (some ⟨kb, 0, none⟩) d.n kc) ∧ ge < wr.heap.size ∧ d.n ≤ 4096 := by
 obtain ⟨F, ⟨kb, kc, LA, lc, h1⟩, _⟩ := h.at_ hC
 exact ⟨kb, kc, (h1.blk.cell 0).trans rfl, h1.blk.lt, h1.ok.n2⟩
theorem rsfree_on (hC : Foc C) (h : On w (C (RS ge d gw t gz c gs L dn)) wr X) (hn : 2 ≤ d.n) (hl : L.length ≤ 100000) :
 Calls Tryz.prog 32 #[.pointer (some ⟨gs, 0, none⟩)] wr fun e w' => ∃ A k, e = .returned (.slice A (frs d.n L).length k) ∧ w'.ownsRow wr.heap.size 3 1 (.slice A (frs d.n L).length k) (frs d.n L).length (ni9 (frs d.n L)) ∧ Below wr.heap.size wr w' := by
 obtain ⟨B, k, hso⟩ := rso_at (hC.comp (rs_s ge d gw t gz c)) h
 obtain ⟨kb, kc, hdk, hdl, hd4⟩ := rdk_at ((hC.comp (rs_t gs ge gw gz L dn)).comp (tr_d gw t gz c)) h
 have HSO := hid hso
 have HDK := hid (And.intro hdk hdl)
 have HLB := hid hso.row.sl
 have HNL := hid (And.intro hn (And.intro hd4 hl))
 have HFE : Hid (frs d.n L = fr9 L d.n) := hid rfl
 obtain ⟨s0, s1, s2, s3, s4⟩ := hso.cells
 generalize d.n = n at *
 clear h hso hdl hn hd4 hl hC
 go_enter Tryz.func32, Tryz.ntmps32
 go_wp2_with fail
 go_loopg [3, 4] (n - 2) (fun kk ov iv wq => ∃ (i : Nat) (A : Option Addr) (k' : Nat), ov = .slice A (fr9 L i).length k' ∧ iv = .int .i64 (i : Int) ∧ Hid (kk = n - i) ∧ Hid (2 ≤ i ∧ i ≤ n) ∧ Hid (wq.ownsRow wr.heap.size 3 1 (.slice A (fr9 L i).length k') (fr9 L i).length (ni9 (fr9 L i))) ∧ Hid (Below wr.heap.size wr wq))
 case atStart => exact ⟨2, none, 0, rfl, rfl, hid rfl, hid ⟨nl _, HNL.out.1⟩, hid (own_nilrow _ _ _ _), hid (Below.refl _ _)⟩
 case round =>
 obtain ⟨i, A, k', rfl, rfl, hgk, hi, hO, hB⟩ := hrel
 rename World => wq
 have t0 : wq.cell? ⟨gs, 0, none⟩ = some (.pointer (some ⟨ge, 0, none⟩)) := (HSO.out.bel hB.out).cells.1
 have t3 : wq.cell? ⟨gs, 3, none⟩ = some (.slice B L.length k) := (HSO.out.bel hB.out).cells.2.2.2.1
 have tk : wq.cell? ⟨ge, 0, none⟩ = some (.slice (some ⟨kb, 0, none⟩) n kc) := (World.cell?_of_block (a := ⟨ge, 0, none⟩) (hB.out.block ge HDK.out.2)).trans HDK.out.1
 rcases Nat.lt_or_ge i n with hlt | hge
 · have HI := hid hlt
   have i2 : (i : Int) < (n : Int) := Int.ofNat_lt.2 hlt
   have i3 : decide ((i : Int) < (n : Int)) = true := decide_eq_true i2
   have i4 : decide (i < n) = true := decide_eq_true hlt
   have wi : wrap64 ((i : Int) + 1) = ((i + 1 : Nat) : Int) := by have := HNL.out; unfold wrap64; omega
   have HSN := hid (fr9_snoc L hi.out.1)
   have HFL : Hid ((fr9 L i).length ≤ 4096) := hid (by have := fr9_len L i; have := HNL.out; omega)
   generalize fr9 L i = P at *
   clear hlt
   go_wp2_with fail
   clear s0 s1 s2 s3 s4 t0 t3 tk
   go_loopg [5, 25] L.length (fun k2 fv jv wz => ∃ (j : Nat), fv = .bool ((L.take j).all fun x => decide (x.b ≠ (i : Int))) ∧ jv = .int .i64 (j : Int) ∧ Hid (k2 = L.length - j) ∧ Hid (j ≤ L.length) ∧ Hid (Below wq.heap.size wq wz))
   case atStart => exact ⟨0, rfl, rfl, hid rfl, hid (Nat.zero_le _), hid (Below.refl _ _)⟩
   case round =>
   obtain ⟨j, rfl, rfl, hgk2, hj, hB2⟩ := hrel
   rename World => wz
   have HBZ := hid (hB.out.trans (hB2.out.mono hB.out.size))
   have HRZ := hid (own_keep hO.out fun b hb => hB2.out.block b (own_lt hO.out b hb))
   rcases Nat.lt_or_ge j L.length with hlt | hge
   · have HJ := hid hlt
     have j1 : (0 : Int) ≤ (j : Int) := Int.natCast_nonneg j
     have j2 : (j : Int) < (L.length : Int) := Int.ofNat_lt.2 hlt
     have j3 : decide ((j : Int) < (L.length : Int)) = true := decide_eq_true j2
     have j4 : decide (j < L.length) = true := decide_eq_true hlt
     have wj : wrap64 ((j : Int) + 1) = ((j + 1 : Nat) : Int) := rs_w HNL.out.2.2 hlt
     obtain ⟨b, off, rfl, hbl, hr⟩ := HLB.out.2 j hlt
     have HAT := hid (all_take L (i : Int) hlt)
     obtain ⟨x, hx⟩ : ∃ x, L[j]'hlt = x := ⟨_, rfl⟩
     rw [hx] at hr HAT
     clear hx
     obtain ⟨c0, c1, c2, c3, c4, c5, c6, c7, c8, c9, c10⟩ := range11 (rangeAt_keep hr (HBZ.out.block b hbl))
     have HBX := hid (Blk.new wz 90 #[.string (str x.nm), .int .i64 x.k.t, .int .i64 x.k.c, .int .i64 x.k.e, .int .i64 x.b, .int .i64 x.p.k.t, .int .i64 x.p.k.c, .int .i64 x.p.k.e, .int .i64 x.p.id, .int .i64 x.p.ver, .int .i64 x.sz])
     have hbx : Below wz.heap.size wz (wz.alloc (.cells #[.string (str x.nm), .int .i64 x.k.t, .int .i64 x.k.c, .int .i64 x.k.e, .int .i64 x.b, .int .i64 x.p.k.t, .int .i64 x.p.k.c, .int .i64 x.p.k.e, .int .i64 x.p.id, .int .i64 x.p.ver, .int .i64 x.sz] 90)) := (Below.refl _ _).alloc (nl _) _
     have HB3 := hid (hB2.out.trans (hbx.mono hB2.out.size))
     have x4 := (HBX.out.cell 4).trans rfl
     generalize ((L.take j).all fun x => decide (x.b ≠ (i : Int))) = q at *
     clear hlt hbl hr hbx
     by_cases hxi : x.b = (i : Int)
     · have z : (x.b != (i : Int)) = false := by rw [hxi]; simp
       have HQ : Hid (((L.take (j + 1)).all fun x => decide (x.b ≠ (i : Int))) = false) := hid (by rw [HAT.out, decide_eq_false (fun h => h hxi), Bool.and_false])
       clear hxi
       cases q with
       | true =>
        go_wp2_with fail
        go_roundg (L.length - (j + 1))
        case measure => exact rs_meas hgk2.out HJ.out
        case rel => exact ⟨j + 1, by rw [HQ.out], by first | rfl | rw [wj], hid rfl, hid HJ.out, HB3⟩
       | false =>
        go_wp2_with fail
        go_roundg (L.length - (j + 1))
        case measure => exact rs_meas hgk2.out HJ.out
        case rel => exact ⟨j + 1, by rw [HQ.out], by first | rfl | rw [wj], hid rfl, hid HJ.out, HB3⟩
     · have z : (x.b != (i : Int)) = true := by simpa using hxi
       have z2 : (x.b == (i : Int)) = false := beq_eq_false_iff_ne.2 hxi
       have HQ : Hid (((L.take (j + 1)).all fun x => decide (x.b ≠ (i : Int))) = q) := hid (by rw [HAT.out, decide_eq_true hxi, Bool.and_true])
       clear hxi
       cases q with
       | true =>
        go_wp2_with fail
        go_roundg (L.length - (j + 1))
        case measure => exact rs_meas hgk2.out HJ.out
        case rel => exact ⟨j + 1, by rw [HQ.out], by first | rfl | rw [wj], hid rfl, hid HJ.out, HB3⟩
       | false =>
        go_wp2_with fail
        go_roundg (L.length - (j + 1))
        case measure => exact rs_meas hgk2.out HJ.out
        case rel => exact ⟨j + 1, by rw [HQ.out], by first | rfl | rw [wj], hid rfl, hid HJ.out, HB3⟩
   have hjl : j = L.length := by have := hj.out; omega
   subst hjl
   have j2 : ¬ (L.length : Int) < (L.length : Int) := fun e => absurd e (Int.lt_irrefl _)
   rw [List.take_length]
   clear hge hj hgk2 hO hB hB2
   cases hq : (L.all fun x => decide (x.b ≠ (i : Int))) with
   | false =>
    have HE : Hid (fr9 L (i + 1) = P) := hid (by rw [HSN.out, hq, if_neg (by decide), List.append_nil])
    clear hq
    go_wp2_with fail
    go_roundg (n - (i + 1))
    case measure => exact rs_meas hgk.out HI.out
    case rel => exact ⟨i + 1, A, k', by rw [HE.out], by first | rfl | rw [wi], hid rfl, hid ⟨by have := hi.out; omega, HI.out⟩, by rw [HE.out]; exact HRZ, HBZ⟩
   | true =>
    have HE : Hid (fr9 L (i + 1) = P ++ [i]) := hid (by rw [HSN.out, hq, if_pos rfl])
    have HEL : Hid ((fr9 L (i + 1)).length = P.length + 1) := hid (by rw [HE.out, List.length_append]; rfl)
    clear hq
    go_wp2_with (at_builtin; refine wpList_app1 _ rfl _ _ 76 _ rfl wr.heap.size 3 (.int .i64 0) 8 Tryz.underlying76 Tryz.info9 rfl _ _ _ _ rfl HRZ.out _ rfl rfl (by have := HFL.out; omega) (by have := HFL.out; unfold maxLen; omega) HBZ.out.size ?_)
    intro A5 c5 w5 hc5 ho5 hg5 hb5 hz5
    have HO5 : Hid (w5.ownsRow wr.heap.size 3 1 (.slice A5 (P.length + 1) c5) (P.length + 1) (ni9 (P ++ [i]))) := hid (by rw [ni9_app]; exact ho5)
    have HB5 := hid (HBZ.out.trans hb5)
    clear hc5 ho5 hg5 hb5 hz5
    go_wp2_with fail
    go_roundg (n - (i + 1))
    case measure => exact rs_meas hgk.out HI.out
    case rel => exact ⟨i + 1, A5, c5, by rw [HEL.out], by first | rfl | rw [wi], hid rfl, hid ⟨by have := hi.out; omega, HI.out⟩, by rw [HEL.out, HE.out]; exact HO5, HB5⟩
 have hin : i = n := by have := hi.out; omega
 subst hin
 have i2 : ¬ (i : Int) < (i : Int) := fun e => absurd e (Int.lt_irrefl _)
 clear hge hi hgk
 go_wp2
 go_ret
 exact ⟨A, k', by rw [HFE.out]; rfl, by rw [HFE.out]; exact hO.out, hB.out⟩
end
theorem find_at {L : List Bb} {nm : List UInt8} {j : Nat} (hj : j < L.length) (h : ∀ x ∈ L.take j, x.nm ≠ nm) (hx : L[j].nm = nm) : (L.find? fun x => decide (x.nm = nm)) = some L[j] := by
 rw [List.find?_eq_some_iff_append]
 exact ⟨decide_eq_true hx, L.take j, L.drop (j + 1), by rw [← List.drop_eq_getElem_cons hj, List.take_append_drop], fun x hx => by rw [decide_eq_false (h x hx)]; rfl⟩
theorem find_no {L : List Bb} {nm : List UInt8} (h : ∀ x ∈ L, x.nm ≠ nm) : (L.find? fun x => decide (x.nm = nm)) = none := List.find?_eq_none.2 fun x hx => by simpa using h x hx
section
variable {C : Ob → Ob} {w wr : World} {X : Nat → Prop} {ge gw gz gs : Nat} {d : St} {t : Va} {c : Ce} {L : List Bb} {dn : Bool}
theorem rsget_on (hC : Foc C) (hOk : ∀ P : Ob, P.Ok → (C P).Ok) (h : On w (C (RS ge d gw t gz c gs L dn)) wr X) (nm : List UInt8) (hl : L.length ≤ 100000) (hw : ∀ x ∈ L, x.wf ∧ x.p.k = x.k) (hW : d.W.length ≤ 1000000) (hG : t.G.length ≤ 1000000) (hL : t.L.length ≤ 1000000) :
 Calls Tryz.prog 36 #[.pointer (some ⟨gs, 0, none⟩), .string (str nm)] wr fun e w' => e = .returned (.tuple #[.string (str (sgB d t L nm)), .int .i64 (sgE d t L nm)]) ∧ Below wr.heap.size wr w' := by
 obtain ⟨B, k, hso⟩ := rso_at (hC.comp (rs_s ge d gw t gz c)) h
 have HSO := hid hso
 have HLB := hid hso.row.sl
 have HLL := hid hl
 have HWF := hid hw
 have hrd : ∀ x ∈ L, ∀ wz, Below wr.heap.size wr wz → Calls Tryz.prog 69 #[.pointer (some ⟨ge, 0, none⟩), .pointer (some ⟨gw, 0, none⟩), .int .i64 x.b, (.agg #[.int .i64 (x.p).k.t, .int .i64 (x.p).k.c, .int .i64 (x.p).k.e, .int .i64 (x.p).id, .int .i64 (x.p).ver])] wz fun e w' => e = .returned (.tuple #[.string (str (prB d t x.b x.p)), .int .i64 (prE d t x.b x.p)]) ∧ Below wz.heap.size wz w' := fun x hx wz hb =>
  rpread_on ((hC.comp (rs_t gs ge gw gz L dn)).comp (tr_p gz c)) (h.go (hOk _ (RS.ok _ _ _ _ _ _ _ _ _)) hb) x.p (by obtain ⟨⟨_, h2, _, h4, h5, _⟩, h7⟩ := hw x hx; exact ⟨by rw [h7]; exact h2, h4, h5⟩) x.b (hw x hx).1.2.2.1 hW hG hL
 have HRD := hid hrd
 obtain ⟨s0, s1, s2, s3, s4⟩ := hso.cells
 clear h hso hl hw hrd hC hOk hW hG hL
 go_enter Tryz.func36, Tryz.ntmps36
 go_wp2_with fail
 clear s0 s1 s2 s3 s4
 go_loopg [15] L.length (fun kk iv wq => ∃ (j : Nat), iv = .int .i64 (j : Int) ∧ Hid (kk = L.length - j) ∧ Hid (j ≤ L.length) ∧ Hid (∀ x ∈ L.take j, x.nm ≠ nm) ∧ Hid (Below wr.heap.size wr wq))
 case atStart => exact ⟨0, rfl, hid rfl, hid (Nat.zero_le _), hid (fun x hx => by cases hx), hid (Below.refl _ _)⟩
 case round =>
 obtain ⟨j, rfl, hgk, hj, hF, hB⟩ := hrel
 rename World => wz
 rcases Nat.lt_or_ge j L.length with hlt | hge
 · have HJ := hid hlt
   have j1 : (0 : Int) ≤ (j : Int) := Int.natCast_nonneg j
   have j2 : (j : Int) < (L.length : Int) := Int.ofNat_lt.2 hlt
   have j3 : decide ((j : Int) < (L.length : Int)) = true := decide_eq_true j2
   have j4 : decide (j < L.length) = true := decide_eq_true hlt
   have wj : wrap64 ((j : Int) + 1) = ((j + 1 : Nat) : Int) := rs_w HLL.out hlt
   obtain ⟨b, off, rfl, hbl, hr⟩ := HLB.out.2 j hlt
   have HFIND := hid (find_at (nm := nm) hlt hF.out)
   have HTK := hid (List.take_succ_eq_append_getElem hlt)
   have HMEM := hid (List.getElem_mem hlt)
   obtain ⟨x, hx⟩ : ∃ x, L[j]'hlt = x := ⟨_, rfl⟩
   rw [hx] at hr HFIND HTK HMEM
   clear hx
   obtain ⟨c0, c1, c2, c3, c4, c5, c6, c7, c8, c9, c10⟩ := range11 (rangeAt_keep hr (hB.out.block b hbl))
   have HBX := hid (Blk.new wz 90 #[.string (str x.nm), .int .i64 x.k.t, .int .i64 x.k.c, .int .i64 x.k.e, .int .i64 x.b, .int .i64 x.p.k.t, .int .i64 x.p.k.c, .int .i64 x.p.k.e, .int .i64 x.p.id, .int .i64 x.p.ver, .int .i64 x.sz])
   have hbx : Below wz.heap.size wz (wz.alloc (.cells #[.string (str x.nm), .int .i64 x.k.t, .int .i64 x.k.c, .int .i64 x.k.e, .int .i64 x.b, .int .i64 x.p.k.t, .int .i64 x.p.k.c, .int .i64 x.p.k.e, .int .i64 x.p.id, .int .i64 x.p.ver, .int .i64 x.sz] 90)) := (Below.refl _ _).alloc (nl _) _
   have HB3 := hid (hB.out.trans (hbx.mono hB.out.size))
   have HTG : Hid (gs < wz.heap.size) := hid (Nat.lt_of_lt_of_le HSO.out.blk.lt hB.out.size)
   have x0 := (HBX.out.cell 0).trans rfl
   have s1 := str_list x.nm
   have s2 := str_list nm
   clear hlt hbl hr hbx
   by_cases he : x.nm = nm
   · have d1 : (x.nm == nm) = true := by rw [he]; exact beq_self_eq_true _
     have d2 : ((str x.nm).toList == (str nm).toList) = true := by rw [he]; exact beq_self_eq_true _
     have d3 : (x.nm != nm) = false := by rw [he]; simp
     have HFX := hid (HFIND.out he)
     have HE : Hid (sgE d t L nm = if prE d t x.b x.p = 0 ∧ ((prB d t x.b x.p).length : Int) ≠ x.sz then 51 else prE d t x.b x.p) := hid (by unfold sgE; rw [HFX.out])
     have HBB : Hid (sgB d t L nm = if prE d t x.b x.p = 0 ∧ ((prB d t x.b x.p).length : Int) ≠ x.sz then [] else prB d t x.b x.p) := hid (by unfold sgB; rw [HFX.out])
     have hcall := HRD.out x HMEM.out
     obtain ⟨E, hE⟩ : ∃ E, prE d t x.b x.p = E := ⟨_, rfl⟩
     obtain ⟨PB, hPB⟩ : ∃ PB, prB d t x.b x.p = PB := ⟨_, rfl⟩
     rw [hE, hPB] at HE HBB
     simp only [hE, hPB] at hcall
     have HCALL := hid hcall
     clear he hE hPB hcall HFIND HTK hF
     go_wp2_with fail
     clear c0 c1 c2 c3 c4 c5 c6 c7 c8 c9 c10 x0 d1 d2 d3 s1 s2
     obtain ⟨tb, htb⟩ : ∃ tb, wz.heap.size = tb := ⟨_, rfl⟩
     rw [htb] at HBX HTG ⊢
     generalize wz.alloc (.cells #[.string (str x.nm), .int .i64 x.k.t, .int .i64 x.k.c, .int .i64 x.k.e, .int .i64 x.b, .int .i64 x.p.k.t, .int .i64 x.p.k.c, .int .i64 x.p.k.e, .int .i64 x.p.id, .int .i64 x.p.ver, .int .i64 x.sz] 90) = w5 at *
     have hdr : Below w5.heap.size w5 w5.drew := (Below.refl _ _).drew
     have HB5 : Hid (Below wr.heap.size wr w5.drew) := hid (HB3.out.trans (hdr.mono HB3.out.size))
     have HBX5 := hid (HBX.out.keep (hdr.block _ HBX.out.lt))
     have HS5 := hid (HSO.out.bel HB5.out)
     clear hdr htb HBX HB3
     refine wp_region_held_drew (S := fun wx => wx.cell? ⟨gs, 0, none⟩ = some (.pointer (some ⟨ge, 0, none⟩)) ∧ wx.cell? ⟨gs, 1, none⟩ = some (.pointer (some ⟨gw, 0, none⟩)) ∧ Blk wx tb 90 #[.string (str x.nm), .int .i64 x.k.t, .int .i64 x.k.c, .int .i64 x.k.e, .int .i64 x.b, .int .i64 x.p.k.t, .int .i64 x.p.k.c, .int .i64 x.p.k.e, .int .i64 x.p.id, .int .i64 x.p.ver, .int .i64 x.sz]) (by kernel_rfl) ⟨HS5.out.cells.1, HS5.out.cells.2.1, HBX5.out⟩ (fun HS => ?_)
     refine qT 0 ?vg0 ?yg0 HS ?rg0
     case yg0 => refine qI fun wS hSw => ?_; go_simp; try with_reducible rfl
     try simp only [Act.put, zA]
     refine qT 1 ?vg1 ?yg1 HS ?rg1
     case yg1 => refine qI fun wS hSw => ?_; go_simp; try with_reducible rfl
     try simp only [Act.put, zA]
     refine qT 2 ?vg2 ?yg2 HS ?rg2
     case yg2 => refine qI fun wS hSw => ?_; go_simp; try with_reducible rfl
     try simp only [Act.put, zA]
     refine qT 3 ?vg3 ?yg3 HS ?rg3
     case yg3 =>
      refine qI fun wS hSw => ?_
      obtain ⟨g0, g1, gb⟩ := hSw
      go_simp
      try with_reducible rfl
     try simp only [Act.put, zA]
     refine qT 4 ?vg4 ?yg4 HS ?rg4
     case yg4 => refine qI fun wS hSw => ?_; go_simp; try with_reducible rfl
     try simp only [Act.put, zA]
     refine qT 5 ?vg5 ?yg5 HS ?rg5
     case yg5 => refine qI fun wS hSw => ?_; go_simp; try with_reducible rfl
     try simp only [Act.put, zA]
     refine qT 6 ?vg6 ?yg6 HS ?rg6
     case yg6 => refine qI fun wS hSw => ?_; go_simp; try with_reducible rfl
     try simp only [Act.put, zA]
     refine qT 7 ?vg7 ?yg7 HS ?rg7
     case yg7 =>
      refine qI fun wS hSw => ?_
      obtain ⟨g0, g1, gb⟩ := hSw
      go_simp
      try with_reducible rfl
     try simp only [Act.put, zA]
     refine qT 8 ?vg8 ?yg8 HS ?rg8
     case yg8 => refine qI fun wS hSw => ?_; go_simp; try with_reducible rfl
     try simp only [Act.put, zA]
     refine qT 9 ?vg9 ?yg9 HS ?rg9
     case yg9 =>
      refine qI fun wS hSw => ?_
      have y4 := (hSw.2.2.cell 4).trans rfl
      go_simp
      try with_reducible rfl
     try simp only [Act.put, zA]
     refine qT 10 ?vg10 ?yg10 HS ?rg10
     case yg10 => refine qI fun wS hSw => ?_; go_simp; try with_reducible rfl
     try simp only [Act.put, zA]
     refine qT 11 ?vg11 ?yg11 HS ?rg11
     case yg11 =>
      refine qI fun wS hSw => ?_
      refine Eq.trans (exec_loadP (.tmp 34) ?_ ?_ hSw.2.2) ?_
      all_goals rfl
     try simp only [Act.put, zA]
     refine qR 12 fun K hK => ?_
     go_simp
     refine (HCALL.out w5.drew HB5.out).mono ?_
     rintro e w6 ⟨rfl, hb6⟩
     have HB6 : Hid (Below wr.heap.size wr w6) := hid (HB5.out.trans (hb6.mono HB5.out.size))
     have HBX6 := hid (HBX5.out.keep (hb6.block _ HBX5.out.lt))
     have HS6 := hid (HSO.out.bel HB6.out)
     clear hb6
     refine hK.out _ _ ⟨HS6.out.cells.1, HS6.out.cells.2.1, HBX6.out⟩ (fun HS => ?_)
     clear hK K
     try simp only [Act.put, zA]
     refine qT 13 ?vg13 ?yg13 HS ?rg13
     case yg13 => refine qI fun wS hSw => ?_; go_simp; try with_reducible rfl
     try simp only [Act.put, zA]
     refine qT 14 ?vg14 ?yg14 HS ?rg14
     case yg14 => refine qI fun wS hSw => ?_; go_simp; try with_reducible rfl
     try simp only [Act.put, zA]
     refine qT 15 ?vg15 ?yg15 HS ?rg15
     case yg15 => refine qI fun wS hSw => ?_; go_simp; try with_reducible rfl
     try simp only [Act.put, zA]
     refine qT 16 ?vg16 ?yg16 HS ?rg16
     case yg16 => refine qI fun wS hSw => ?_; go_simp; try with_reducible rfl
     try simp only [Act.put, zA]
     refine qT 17 ?vg17 ?yg17 HS ?rg17
     case yg17 => refine qI fun wS hSw => ?_; go_simp; try with_reducible rfl
     try simp only [Act.put, zA]
     refine qD ?_
     clear HS
     have x10 : w6.cell? ⟨tb, 10, none⟩ = some (.int .i64 x.sz) := (HBX6.out.cell 10).trans rfl
     by_cases hz : E = 0
     · have z1 : (E == 0) = true := by simpa using hz
       have hlen := str_size PB
       by_cases hsz : (PB.length : Int) = x.sz
       · have z2 : ((PB.length : Int) != x.sz) = false := by rw [hsz]; simp
         have HEE : Hid (sgE d t L nm = 0) := hid (by rw [HE.out, if_neg (fun h => h.2 hsz), hz])
         have HBE : Hid (sgB d t L nm = PB) := hid (by rw [HBB.out, if_neg (fun h => h.2 hsz)])
         clear hsz
         subst hz
         go_wp2
         go_ret2
         exact ⟨by rw [HEE.out, HBE.out]; rfl, HB6.out⟩
       · have z2 : ((PB.length : Int) != x.sz) = true := by simpa using hsz
         have HEE : Hid (sgE d t L nm = 51) := hid (by rw [HE.out, if_pos ⟨hz, hsz⟩])
         have HBE : Hid (sgB d t L nm = []) := hid (by rw [HBB.out, if_pos ⟨hz, hsz⟩])
         clear hsz
         subst hz
         go_wp2
         go_ret2
         exact ⟨by rw [HEE.out, HBE.out]; rfl, HB6.out⟩
     · have z1 : (E == 0) = false := beq_eq_false_iff_ne.2 hz
       have HEE : Hid (sgE d t L nm = E) := hid (by rw [HE.out, if_neg (fun h => hz h.1)])
       have HBE : Hid (sgB d t L nm = PB) := hid (by rw [HBB.out, if_neg (fun h => hz h.1)])
       clear hz
       go_wp2
       go_ret2
       exact ⟨by rw [HEE.out, HBE.out]; rfl, HB6.out⟩
   · have d1 : (x.nm == nm) = false := beq_eq_false_iff_ne.2 he
     have d2 : ((str x.nm).toList == (str nm).toList) = false := str_ne he
     have d3 : (x.nm != nm) = true := by simpa using he
     have HF2 : Hid (∀ y ∈ L.take (j + 1), y.nm ≠ nm) := hid (fun y hy => by
      rw [HTK.out] at hy
      rcases List.mem_append.1 hy with e | e
      · exact hF.out y e
      · rw [List.mem_singleton.1 e]; exact he)
     clear he HTK HFIND HMEM
     go_wp2_with fail
     go_roundg (L.length - (j + 1))
     case measure => exact rs_meas hgk.out HJ.out
     case rel => exact ⟨j + 1, by first | rfl | rw [wj], hid rfl, hid HJ.out, HF2, HB3⟩
 have hjl : j = L.length := by have := hj.out; omega
 subst hjl
 have j2 : ¬ (L.length : Int) < (L.length : Int) := fun e => absurd e (Int.lt_irrefl _)
 have HNO := hid (find_no (nm := nm) (L := L) (fun x hx => hF.out x (by rw [List.take_length]; exact hx)))
 have HE : Hid (sgE d t L nm = 90) := hid (by unfold sgE; rw [HNO.out])
 have HBB : Hid (sgB d t L nm = []) := hid (by unfold sgB; rw [HNO.out])
 clear hge hj hgk hF
 go_wp2
 go_ret2
 exact ⟨by rw [HE.out, HBB.out]; rfl, hB.out⟩
theorem all_lt (P : List Bb) (n : Int) {j : Nat} (hj : j < P.length) : ((P.take (j + 1)).all fun x => decide (x.b < n)) = (((P.take j).all fun x => decide (x.b < n)) && decide (P[j].b < n)) := by
 rw [List.take_succ_eq_append_getElem hj, List.all_append]
 show (_ && (decide (P[j].b < n) && true)) = _
 rw [Bool.and_true]
theorem refP_len (b : List UInt8) : (refP b).1.length ≤ 100000 := by
 unfold refP
 split
 · exact Nat.zero_le _
 · rename_i hn
   split
   · exact Nat.zero_le _
   · rename_i l r hl
     have h1 := (rdBls_back _ _ _ _ hl).2.1
     show l.length ≤ _
     have h2 : ¬ 1000 < (rd b).1 := fun h => hn (.inr h)
     omega
theorem str_rowC (w : World) (L : List UInt8) : ∃ A c w', (convert 9 51 (.string (str L))).run Tryz.prog w = .ok (.slice A L.length c) w' ∧ L.length ≤ c ∧ Below w.heap.size w w' ∧ Bts w' 0 w'.heap.size A L.length L := by
 have h := Lib.run_convert_string_bytes (P := Tryz.prog) w 9 51 5 (str L) Tryz.underlying9 Tryz.underlying51 Tryz.underlying5
 rw [str_size] at h
 obtain ⟨A, c, w', h2, h3, h4⟩ := str_row w L
 rw [h2] at h
 injection h with h5 _
 injection h5 with _ _ h9
 exact ⟨A, c, w', h2, by rw [h9]; exact grownCap_ge _ _ _ _, h3, h4⟩
def ROp (wr : World) (ge gw gz : Nat) (d : St) (t : Va) (c : Ce) (e : Ending) (w' : World) : Prop :=
 ∃ p, e = .returned (.tuple #[.pointer p, .int .i64 (soE d t c)]) ∧ Below wr.heap.size wr w' ∧ (soE d t c ≠ 0 → p = none) ∧
  (soE d t c = 0 → ∃ gs G, p = some ⟨gs, 0, none⟩ ∧ RStO gs ge gw gz (soL d t c) false w' G ∧ ∀ j, G j → wr.heap.size ≤ j)
theorem ROp.no {wr w' : World} {ge gw gz : Nat} {d : St} {t : Va} {c : Ce} {E : Int} (h : soE d t c = E) (h0 : E ≠ 0) (hb : Below wr.heap.size wr w') : ROp wr ge gw gz d t c (.returned (.tuple #[.pointer none, .int .i64 E])) w' :=
 ⟨none, by rw [h], hb, fun _ => rfl, fun e => absurd (h.symm.trans e) h0⟩
theorem ROp.yes {wr w' : World} {ge gw gz gs k : Nat} {B : Option Addr} {d : St} {t : Va} {c : Ce} (h : soE d t c = 0) (hs : RSoB w' gs ge gw gz (soL d t c) false B k) (hg : wr.heap.size ≤ gs) (hB : ∀ b, B.map (·.block) = some b → wr.heap.size ≤ b) (hb : Below wr.heap.size wr w') : ROp wr ge gw gz d t c (.returned (.tuple #[.pointer (some ⟨gs, 0, none⟩), .int .i64 0])) w' :=
 ⟨some ⟨gs, 0, none⟩, by rw [h], hb, fun e => absurd h e, fun _ => ⟨gs, _, rfl, ⟨B, k, hs, fun _ => Iff.rfl⟩, fun j hj => hj.elim (fun e => by rw [e]; exact hg) (hB j)⟩⟩
theorem rsopen_on (hC : Foc C) (hOk : ∀ P : Ob, P.Ok → (C P).Ok) (h : On w (C (TR ge d gw t gz c)) wr X) (hW : d.W.length ≤ 1000000) (hG : t.G.length ≤ 1000000) (hL : t.L.length ≤ 1000000) (hv : c.ver ≤ 500000) (hm : c.mark ≤ 600000) (hgb : (gtB d t c).length ≤ 65536) :
 Calls Tryz.prog 16 #[.pointer (some ⟨ge, 0, none⟩), .pointer (some ⟨gw, 0, none⟩), .pointer (some ⟨gz, 0, none⟩)] wr (ROp wr ge gw gz d t c) := by
 obtain ⟨kb, kc, hdk, hdl, hd4⟩ := rdk_at (hC.comp (tr_d gw t gz c)) h
 have hget := fun wz (hb : Below wr.heap.size wr wz) => rget_on hC hOk (h.go (hOk _ (TR.ok _ _ _ _ _ _)) hb) hW hG hL hv hm
 have HGET := hid hget
 have HDK := hid (And.intro hdk (And.intro hdl hd4))
 have HGB := hid hgb
 have HSE : Hid (soE d t c = if d.n < 2 then 2 else if gtE d t c = 90 then 0 else if gtE d t c ≠ 0 then gtE d t c else match parB (gtB d t c) with
  | none => 91
  | some l => if ∀ x ∈ l, x.b < (d.n : Int) then 0 else 91) := hid rfl
 have HSL : Hid (soL d t c = if gtE d t c = 90 then [] else (parB (gtB d t c)).getD []) := hid rfl
 obtain ⟨gE, hgE⟩ : ∃ gE, gtE d t c = gE := ⟨_, rfl⟩
 obtain ⟨gB, hgB⟩ : ∃ gB, gtB d t c = gB := ⟨_, rfl⟩
 rw [hgE, hgB] at HSE HSL
 rw [hgB] at HGB
 simp only [hgE, hgB] at HGET
 obtain ⟨n, hn⟩ : ∃ n, d.n = n := ⟨_, rfl⟩
 rw [hn] at HSE HDK hdk
 clear h hC hOk hW hG hL hv hm hget hgE hgB hdl hd4 hgb hn
 by_cases hn2 : n < 2
 · have e1 : decide ((n : Int) < 2) = true := decide_eq_true (by omega)
   have e2 : decide (n < 2) = true := decide_eq_true hn2
   have HF : Hid (soE d t c = 2) := hid (by rw [HSE.out, if_pos hn2])
   clear hn2
   go_enter Tryz.func16, Tryz.ntmps16
   go_wp2
   go_ret2
   exact ROp.no HF.out (by decide) (Below.refl _ _)
 have e1 : decide ((n : Int) < 2) = false := decide_eq_false (by omega)
 have e2 : decide (n < 2) = false := decide_eq_false hn2
 have HN2 := hid hn2
 clear hn2
 go_enter Tryz.func16, Tryz.ntmps16
 go_wp2_with fail
 have hb1 : Below wr.heap.size wr (wr.alloc (.cells #[.pointer (some ⟨ge, 0, none⟩), .pointer (some ⟨gw, 0, none⟩), .pointer (some ⟨gz, 0, none⟩), .slice none 0 0, .bool false] 74)) := (Below.refl _ _).alloc (nl _) _
 have hk1 := Blk.new wr 74 #[.pointer (some ⟨ge, 0, none⟩), .pointer (some ⟨gw, 0, none⟩), .pointer (some ⟨gz, 0, none⟩), .slice none 0 0, .bool false]
 refine (HGET.out _ hb1).mono ?_
 rintro e w2 ⟨rfl, hb2⟩
 have HB2 := hid (hb1.trans (hb2.mono hb1.size))
 have HK2 := hid (hk1.keep (hb2.block _ hk1.lt))
 obtain ⟨gs, hgs⟩ : ∃ gs, wr.heap.size = gs := ⟨_, rfl⟩
 rw [hgs] at HK2 ⊢
 have HGS := hid hgs
 clear hb1 hk1 hb2 e1 e2 hgs
 by_cases h90 : gE = 90
 · have z1 : (gE == 90) = true := by simpa using h90
   have HF : Hid (soE d t c = 0 ∧ soL d t c = []) := hid ⟨by rw [HSE.out, if_neg HN2.out, if_pos h90], by rw [HSL.out, if_pos h90]⟩
   subst h90
   go_wp2
   go_ret2
   exact ROp.yes (gs := gs) (B := none) (k := 0) HF.out.1 ⟨by rw [HF.out.2]; exact HK2.out, by rw [HF.out.2]; exact BRow.nil _ _ _, fun b e => by cases e⟩ (Nat.le_of_eq HGS.out) (fun b e => by cases e) HB2.out
 have z1 : (gE == 90) = false := beq_eq_false_iff_ne.2 h90
 have H90 := hid h90
 clear h90
 by_cases h0 : gE = 0
 · have z2 : (gE != 0) = false := by rw [h0]; simp
   have HFE : Hid (soE d t c = match parB gB with
    | none => 91
    | some l => if ∀ x ∈ l, x.b < (n : Int) then 0 else 91) := hid (by rw [HSE.out, if_neg HN2.out, if_neg H90.out, if_neg (fun e => e h0)])
   have HFL : Hid (soL d t c = (parB gB).getD []) := hid (by rw [HSL.out, if_neg H90.out])
   obtain ⟨A3, c3, w3, hcv, hnc3, hb3, hbt3⟩ := str_rowC w2 gB
   have HB3 := hid (HB2.out.trans (hb3.mono HB2.out.size))
   have HK3 := hid (HK2.out.keep (hb3.block _ HK2.out.lt))
   have HBT := hid hbt3
   have HNC := hid hnc3
   subst h0
   clear hb3 hbt3 hnc3
   go_wp2_with fail
   clear hcv z1 z2
   refine (rparse_c A3 gB.length c3 gB w3 HBT.out HNC.out (by have := HGB.out; omega)).mono ?_
   rintro e w4 ⟨A4, c4, rfl, hr4, hb4⟩
   have HB4 := hid (HB3.out.trans (hb4.mono HB3.out.size))
   have HK4 := hid (HK3.out.keep (hb4.block _ HK3.out.lt))
   have hPB := refP_par gB
   obtain ⟨P, hP⟩ : ∃ P, (refP gB).1 = P := ⟨_, rfl⟩
   obtain ⟨ok, hok⟩ : ∃ ok, (refP gB).2 = ok := ⟨_, rfl⟩
   rw [hP, hok] at hPB
   rw [hP] at hr4
   rw [hP, hok]
   have HPB := hid hPB
   have HR4 := hid hr4
   have HRG : Hid (∀ b, A4.map (·.block) = some b → w3.heap.size ≤ b ∧ b < w4.heap.size) := hid (fun b hb => ⟨own_ge hr4 b hb, own_lt hr4 b hb⟩)
   have HS3 := hid HB3.out.size
   have HPL : Hid (P.length ≤ 100000) := hid (by rw [← hP]; exact refP_len gB)
   have tk4 : w4.cell? ⟨ge, 0, none⟩ = some (.slice (some ⟨kb, 0, none⟩) n kc) := (World.cell?_of_block (a := ⟨ge, 0, none⟩) (HB4.out.block ge HDK.out.2.1)).trans HDK.out.1
   clear hP hok hPB hr4 hb4 HBT HNC tk4
   go_wp2_with fail
   go_loopg [12, 47] P.length (fun kk ov iv wq => ∃ (j : Nat), ov = .bool (ok && ((P.take j).all fun x => decide (x.b < (n : Int)))) ∧ iv = .int .i64 (j : Int) ∧ Hid (kk = P.length - j) ∧ Hid (j ≤ P.length) ∧ Hid (Below w4.heap.size w4 wq))
   case atStart => exact ⟨0, by rw [List.take_zero]; show _ = Value.bool (ok && true); rw [Bool.and_true], rfl, hid rfl, hid (Nat.zero_le _), hid (Below.refl _ _)⟩
   case round =>
   obtain ⟨j, rfl, rfl, hgk, hj, hB⟩ := hrel
   rename World => wz
   have HBZ := hid (HB4.out.trans (hB.out.mono HB4.out.size))
   rcases Nat.lt_or_ge j P.length with hlt | hge
   · have HJ := hid hlt
     have j1 : (0 : Int) ≤ (j : Int) := Int.natCast_nonneg j
     have j2 : (j : Int) < (P.length : Int) := Int.ofNat_lt.2 hlt
     have j3 : decide ((j : Int) < (P.length : Int)) = true := decide_eq_true j2
     have j4 : decide (j < P.length) = true := decide_eq_true hlt
     have wj : wrap64 ((j : Int) + 1) = ((j + 1 : Nat) : Int) := rs_w HPL.out hlt
     obtain ⟨b, off, rfl, hbl, hr⟩ := HR4.out.sl.2 j hlt
     have HAT := hid (all_lt P (n : Int) hlt)
     obtain ⟨x, hx⟩ : ∃ x, P[j]'hlt = x := ⟨_, rfl⟩
     rw [hx] at hr HAT
     clear hx
     obtain ⟨c0, c1, c2, c3, c4, c5, c6, c7, c8, c9, c10⟩ := range11 (rangeAt_keep hr (hB.out.block b hbl))
     have HBX := hid (Blk.new wz 90 #[.string (str x.nm), .int .i64 x.k.t, .int .i64 x.k.c, .int .i64 x.k.e, .int .i64 x.b, .int .i64 x.p.k.t, .int .i64 x.p.k.c, .int .i64 x.p.k.e, .int .i64 x.p.id, .int .i64 x.p.ver, .int .i64 x.sz])
     have hbx : Below wz.heap.size wz (wz.alloc (.cells #[.string (str x.nm), .int .i64 x.k.t, .int .i64 x.k.c, .int .i64 x.k.e, .int .i64 x.b, .int .i64 x.p.k.t, .int .i64 x.p.k.c, .int .i64 x.p.k.e, .int .i64 x.p.id, .int .i64 x.p.ver, .int .i64 x.sz] 90)) := (Below.refl _ _).alloc (nl _) _
     have HB5 := hid (hB.out.trans (hbx.mono hB.out.size))
     have hb5r := HBZ.out.trans (hbx.mono HBZ.out.size)
     have x4 := (HBX.out.cell 4).trans rfl
     have tk : (wz.alloc (.cells #[.string (str x.nm), .int .i64 x.k.t, .int .i64 x.k.c, .int .i64 x.k.e, .int .i64 x.b, .int .i64 x.p.k.t, .int .i64 x.p.k.c, .int .i64 x.p.k.e, .int .i64 x.p.id, .int .i64 x.p.ver, .int .i64 x.sz] 90)).cell? ⟨ge, 0, none⟩ = some (.slice (some ⟨kb, 0, none⟩) n kc) := (World.cell?_of_block (a := ⟨ge, 0, none⟩) (hb5r.block ge HDK.out.2.1)).trans HDK.out.1
     have tkz : wz.cell? ⟨ge, 0, none⟩ = some (.slice (some ⟨kb, 0, none⟩) n kc) := (World.cell?_of_block (a := ⟨ge, 0, none⟩) (HBZ.out.block ge HDK.out.2.1)).trans HDK.out.1
     obtain ⟨q, hq⟩ : ∃ q, (ok && ((P.take j).all fun x => decide (x.b < (n : Int)))) = q := ⟨_, rfl⟩
     have HQE : Hid ((ok && ((P.take (j + 1)).all fun x => decide (x.b < (n : Int)))) = (q && decide (x.b < (n : Int)))) := hid (by rw [HAT.out, ← Bool.and_assoc, hq])
     rw [hq]
     clear hlt hbl hr hbx hb5r hq HAT
     cases q with
     | true =>
      by_cases hxn : x.b < (n : Int)
      · have z : decide (x.b < (n : Int)) = true := decide_eq_true hxn
        have HQ : Hid ((ok && ((P.take (j + 1)).all fun x => decide (x.b < (n : Int)))) = true) := hid (by rw [HQE.out, z]; rfl)
        clear hxn
        go_wp2_with (go_quiet (fail))
        have HB6 := hid (HB5.out.trans (Joins.below_draws _ _ nq))
        go_roundg (P.length - (j + 1))
        case measure => exact rs_meas hgk.out HJ.out
        case rel => exact ⟨j + 1, by rw [HQ.out], by first | rfl | rw [wj], hid rfl, hid HJ.out, HB6⟩
      · have z : decide (x.b < (n : Int)) = false := decide_eq_false hxn
        have HQ : Hid ((ok && ((P.take (j + 1)).all fun x => decide (x.b < (n : Int)))) = false) := hid (by rw [HQE.out, z]; rfl)
        clear hxn
        go_wp2_with (go_quiet (fail))
        have HB6 := hid (HB5.out.trans (Joins.below_draws _ _ nq))
        go_roundg (P.length - (j + 1))
        case measure => exact rs_meas hgk.out HJ.out
        case rel => exact ⟨j + 1, by rw [HQ.out], by first | rfl | rw [wj], hid rfl, hid HJ.out, HB6⟩
     | false =>
      have HQ : Hid ((ok && ((P.take (j + 1)).all fun x => decide (x.b < (n : Int)))) = false) := hid (by rw [HQE.out]; rfl)
      go_wp2_with (go_quiet (fail))
      have HB6 := hid (HB5.out.trans (Joins.below_draws _ _ nq))
      go_roundg (P.length - (j + 1))
      case measure => exact rs_meas hgk.out HJ.out
      case rel => exact ⟨j + 1, by rw [HQ.out], by first | rfl | rw [wj], hid rfl, hid HJ.out, HB6⟩
   have hjl : j = P.length := by have := hj.out; omega
   subst hjl
   have j2 : ¬ (P.length : Int) < (P.length : Int) := fun e => absurd e (Int.lt_irrefl _)
   rw [List.take_length]
   clear hge hj hgk
   cases hq : (ok && (P.all fun x => decide (x.b < (n : Int)))) with
   | false =>
    have HF : Hid (soE d t c = 91) := hid (by
     rw [HFE.out, HPB.out]
     cases ok with
     | false => rfl
     | true =>
      show (if ∀ x ∈ P, x.b < (n : Int) then (0 : Int) else 91) = 91
      rw [if_neg]
      intro hall
      rw [Bool.true_and, List.all_eq_false] at hq
      obtain ⟨x, hx, hx2⟩ := hq
      exact hx2 (decide_eq_true (hall x hx)))
    clear hq
    go_wp2
    go_ret2
    exact ROp.no HF.out (by decide) HBZ.out
   | true =>
    have HF : Hid (soE d t c = 0 ∧ soL d t c = P) := hid (by
     cases ok with
     | false => cases hq
     | true =>
      rw [HFE.out, HFL.out, HPB.out]
      refine ⟨?_, rfl⟩
      show (if ∀ x ∈ P, x.b < (n : Int) then (0 : Int) else 91) = 0
      rw [if_pos]
      intro x hx
      rw [Bool.true_and, List.all_eq_true] at hq
      exact of_decide_eq_true (hq x hx))
    have HKZ := hid (HK4.out.keep (hB.out.block _ HK4.out.lt))
    have l3 : wz.cell? ⟨gs, 3, none⟩ = some (.slice none 0 0) := (HKZ.out.cell 3).trans rfl
    have f3 : wz.frozen? ⟨gs, 3, none⟩ = false := HKZ.out.frozen 3
    have HKF : Hid (Blk (wz.setCell ⟨gs, 3, none⟩ (.slice A4 P.length c4)) gs 74 #[.pointer (some ⟨ge, 0, none⟩), .pointer (some ⟨gw, 0, none⟩), .pointer (some ⟨gz, 0, none⟩), .slice A4 P.length c4, .bool false]) := hid (HKZ.out.store 3 _)
    have hgr := grown_setCell wz gs 3 (.slice A4 P.length c4)
    have HNE : Hid (∀ b, A4.map (·.block) = some b → b ≠ gs) := hid (fun b hb e => by have := (HRG.out b hb).1; have := HK3.out.lt; omega)
    have HRF : Hid (BRow 90 (wz.setCell ⟨gs, 3, none⟩ (.slice A4 P.length c4)) 0 A4 c4 P) := hid (own_keep (own_zero (own_keep HR4.out fun b hb => hB.out.block b (own_lt HR4.out b hb))) fun b hb => hgr.block b (Nat.lt_of_lt_of_le (HRG.out b hb).2 hB.out.size) (fun e => by injection e with e; exact HNE.out b hb e))
    have HBF : Hid (Below wr.heap.size wr (wz.setCell ⟨gs, 3, none⟩ (.slice A4 P.length c4))) := hid (HBZ.out.grown hgr HBZ.out.size (fun g hg => by injection hg with hg; rw [← hg]; exact Nat.le_of_eq HGS.out))
    clear hq hgr
    go_wp2
    go_ret2
    exact ROp.yes (gs := gs) (B := A4) (k := c4) HF.out.1 ⟨by rw [HF.out.2]; exact HKF.out, by rw [HF.out.2]; exact HRF.out, HNE.out⟩ (Nat.le_of_eq HGS.out) (fun b hb => Nat.le_trans HS3.out (HRG.out b hb).1) HBF.out
 · have z2 : (gE != 0) = true := by simpa using h0
   have HF : Hid (soE d t c = gE) := hid (by rw [HSE.out, if_neg HN2.out, if_neg H90.out, if_pos h0])
   have H0 := hid h0
   clear h0
   go_wp2
   go_ret2
   exact ROp.no HF.out H0.out HB2.out
end
theorem without_same {L : List Bb} {nm : List UInt8} : (without L nm).length = L.length ↔ nm ∉ L.map Bb.nm := by
 induction L with
 | nil => exact ⟨fun _ h => (by cases h), fun _ => rfl⟩
 | cons y r ih =>
  have hle : (without r nm).length ≤ r.length := List.length_filter_le _ _
  by_cases e : y.nm = nm
  · have h1 : without (y :: r) nm = without r nm := by unfold without; rw [List.filter_cons, if_neg]; simpa using e
    rw [h1, List.length_cons]
    exact ⟨fun h => by omega, fun h => absurd (by rw [List.map_cons, e]; exact List.mem_cons_self) h⟩
  · have h1 : without (y :: r) nm = y :: without r nm := by unfold without; rw [List.filter_cons, if_pos]; simpa using e
    rw [h1, List.length_cons, List.length_cons, List.map_cons, List.mem_cons]
    exact ⟨fun h => fun h2 => h2.elim (fun h3 => e h3.symm) (ih.1 (by omega)), fun h => by rw [ih.2 (fun h2 => h (.inr h2))]⟩
theorem ck9_bad {L : List Bb} {l : List Hc} {x : Hc} (hx : x ∈ l) (h : chBad x.ch) : ckE L (l.map Hc.ch) = 2 := if_pos (.inl ⟨x.ch, List.mem_map_of_mem hx, h⟩)
theorem ck9_nm (l : List Hc) : (l.map Hc.ch).map Ch.nm = l.map Hc.nm := by rw [List.map_map]; rfl
theorem ck9_dup {L : List Bb} {l : List Hc} {k j : Nat} (hj : j < l.length) (hkl : k < l.length) (hk : k < j) (h : l[k].nm = l[j].nm) : ckE L (l.map Hc.ch) = 2 := by
 refine if_pos (.inr fun hn => ?_)
 rw [ck9_nm] at hn
 have := List.pairwise_iff_getElem.1 hn k j (by rw [List.length_map]; exact hkl) (by rw [List.length_map]; exact hj) hk
 rw [List.getElem_map, List.getElem_map] at this
 exact this h
theorem ck9_nd {l : List Hc} {j : Nat} (hj : j < l.length) (h : ((l.take j).map Hc.nm).Nodup) (hx : ∀ k, ∀ h2 : k < l.length, k < j → l[k].nm ≠ l[j].nm) : ((l.take (j + 1)).map Hc.nm).Nodup := by
 rw [List.take_succ_eq_append_getElem hj, List.map_append, List.nodup_append]
 refine ⟨h, by simp, fun a ha b hb => ?_⟩
 obtain ⟨y, hy, rfl⟩ := List.mem_map.1 ha
 have hb2 : b = l[j].nm := by simpa using hb
 rw [hb2]
 obtain ⟨k, hk, hk2⟩ := List.getElem_of_mem hy
 rw [List.length_take] at hk
 rw [List.getElem_take] at hk2
 rw [← hk2]
 exact hx k (by omega) (by omega)
theorem ck9_on {L : List Bb} {l : List Hc} (hb : ∀ x ∈ l, ¬ chBad x.ch) (hd : (l.map Hc.nm).Nodup) : ((∃ x ∈ l, x.dr = true ∧ ¬ x.nm ∈ L.map Bb.nm) → ckE L (l.map Hc.ch) = 90) ∧ ((∀ x ∈ l, x.dr = true → x.nm ∈ L.map Bb.nm) → ckE L (l.map Hc.ch) = 0) := by
 have h1 : ¬ ((∃ x ∈ l.map Hc.ch, chBad x) ∨ ¬ ((l.map Hc.ch).map Ch.nm).Nodup) := by
  rintro (⟨x, hx, h⟩ | h)
  · obtain ⟨y, hy, rfl⟩ := List.mem_map.1 hx
    exact hb y hy h
  · rw [ck9_nm] at h; exact h hd
 unfold ckE
 rw [if_neg h1]
 refine ⟨fun ⟨x, hx, h2, h3⟩ => if_pos ⟨x.ch, List.mem_map_of_mem hx, h2, h3⟩, fun h => if_neg ?_⟩
 rintro ⟨x, hx, h2, h3⟩
 obtain ⟨y, hy, rfl⟩ := List.mem_map.1 hx
 exact h3 (h y hy h2)
section
variable {C : Ob → Ob} {w wr : World} {X U : Nat → Prop} {ge gw gz gs n q : Nat} {A : Option Addr} {l : List Hc} {L : List Bb} {dn : Bool}
theorem rsck_on (hC : Foc C) (h : On w (C (RStO gs ge gw gz L dn)) wr X) (hch : ChOn U wr A n l) (hnq : n ≤ q) (hn : n ≤ 10000) (hl : L.length ≤ 100000) :
 Calls Tryz.prog 54 #[.pointer (some ⟨gs, 0, none⟩), .slice A n q] wr fun e w' => e = .returned (.int .i64 (ckE L (l.map Hc.ch))) ∧ Below wr.heap.size wr w' := by
 obtain ⟨B, kc, hso⟩ := rso_at hC h
 have HSO := hid hso
 have HH := hid hch
 have HN := hid (And.intro hn hnq)
 have HLL := hid hl
 have HLN : Hid (l.length = n) := hid hch.len
 have HBAD := hid (fun (x : Hc) (hx : x ∈ l) (h : chBad x.ch) => @ck9_bad L l x hx h)
 have HDUP := hid (fun (k j : Nat) (hj : j < l.length) (hkl : k < l.length) => @ck9_dup L l k j hj hkl)
 have HON := hid (@ck9_on L l)
 generalize ckE L (l.map Hc.ch) = E at *
 clear h hso hch hnq hn hl hC
 go_enter Tryz.func54, Tryz.ntmps54
 go_wp2_with fail
 go_loopg [13] n (fun kk iv w2 => ∃ (j : Nat), iv = .int .i64 (j : Int) ∧ Hid (kk = n - j) ∧ Hid (j ≤ n) ∧ Hid (∀ x ∈ l.take j, ¬ chBad x.ch) ∧ Hid (((l.take j).map Hc.nm).Nodup) ∧ Hid (Below wr.heap.size wr w2))
 case atStart => exact ⟨0, rfl, hid rfl, hid (Nat.zero_le _), hid (fun x hx => by cases hx), hid List.Pairwise.nil, hid (Below.refl _ _)⟩
 case round =>
 obtain ⟨j, rfl, hgk, hj, hok, hnd, hB⟩ := hrel
 rename World => w2
 rcases Nat.lt_or_ge j n with hlt | hge
 · have HJ := hid hlt
   have hjl : j < l.length := by rw [HLN.out]; exact hlt
   have j1 : (0 : Int) ≤ (j : Int) := Int.natCast_nonneg j
   have j2 : (j : Int) < (n : Int) := Int.ofNat_lt.2 hlt
   have j3 : decide ((j : Int) < (n : Int)) = true := decide_eq_true j2
   have j4 : decide (j < n) = true := decide_eq_true hlt
   have j5 : (j : Int) ≤ (q : Int) := Int.ofNat_le.2 (Nat.le_trans (Nat.le_of_lt hlt) HN.out.2)
   have j6 : j ≤ q := Nat.le_trans (Nat.le_of_lt hlt) HN.out.2
   have wj : wrap64 ((j : Int) + 1) = ((j + 1 : Nat) : Int) := by have := HN.out; unfold wrap64; omega
   obtain ⟨lb, off, rfl, -, hbl, hr0, hx0⟩ := (HH.out.keep hB.out.size (fun b _ hb => hB.out.block b hb)).at_ hjl
   have HX := hid hx0
   have HXM := hid (List.getElem_mem hjl)
   have HTK := hid (List.take_succ_eq_append_getElem hjl)
   have HND2 := hid (ck9_nd hjl hnd.out)
   have HDJ := hid (fun k hkl => HDUP.out k j hjl hkl)
   obtain ⟨x, hx⟩ : ∃ x, l[j]'hjl = x := ⟨_, rfl⟩
   rw [hx] at hr0 HX HXM HTK HND2 HDJ
   clear hx
   obtain ⟨c0, c1, c2, c3, c4, c5⟩ := range6 hr0
   have hb2 : Below w2.heap.size w2 (w2.alloc (.cells #[.string (str x.nm), .int .i64 x.k.t, .int .i64 x.k.c, .int .i64 x.k.e, .slice x.A x.n x.c, .bool x.dr] 94)) := (Below.refl _ _).alloc (nl _) _
   have HB2 := hid (hB.out.trans (hb2.mono hB.out.size))
   have hk2 := Blk.new w2 94 #[.string (str x.nm), .int .i64 x.k.t, .int .i64 x.k.c, .int .i64 x.k.e, .slice x.A x.n x.c, .bool x.dr]
   have HK2 := hid hk2
   obtain ⟨x0, x1, x2, x3, x4, x5⟩ := hcB_cells (x := x) hk2
   have HBL : Hid (x.body.length = x.n) := hid HX.out.b.1
   obtain ⟨tb, htb⟩ : ∃ tb, w2.heap.size = tb := ⟨_, rfl⟩
   rw [htb] at HK2
   have HTB := hid htb
   clear hlt hjl hbl hr0 hx0 hb2 hk2 hB htb
   go_wp2_with fail
   refine (rname_c x.nm HX.out.nm _).mono ?_
   rintro e w' ⟨rfl, rfl⟩
   by_cases h1 : nmOk x.nm
   case neg =>
    rw [decide_eq_false h1]
    have HE := hid (HBAD.out _ HXM.out (.inl h1))
    clear h1
    go_wp2
    go_ret
    exact ⟨by rw [HE.out]; rfl, HB2.out⟩
   rw [decide_eq_true h1]
   have HNM := hid h1
   clear h1
   go_wp2_with fail
   refine (rkey_c x.k _).mono ?_
   rintro e w3 ⟨rfl, hb3⟩
   have HB3 := hid (HB2.out.trans (hb3.mono HB2.out.size))
   have HK3 := hid (HK2.out.keep (hb3.block _ HK2.out.lt))
   clear hb3 x0 x1 x2 x3 x4 x5 c0 c1 c2 c3 c4 c5
   rw [HTB.out]
   by_cases h2 : x.k.right
   case neg =>
    rw [decide_eq_false h2]
    have HE := hid (HBAD.out _ HXM.out (.inr (.inl h2)))
    clear h2
    go_wp2
    go_ret
    exact ⟨by rw [HE.out]; rfl, HB3.out⟩
   rw [decide_eq_true h2]
   have HKR := hid h2
   clear h2
   obtain ⟨x0, x1, x2, x3, x4, x5⟩ := hcB_cells (x := x) HK3.out
   by_cases h3 : 65536 < x.n
   case pos =>
    have e3 : decide ((65536 : Int) < (x.n : Int)) = true := decide_eq_true (by omega)
    have e4 : decide (65536 < x.n) = true := decide_eq_true h3
    have HE := hid (HBAD.out _ HXM.out (.inr (.inr (by show 65536 < x.body.length; rw [HBL.out]; exact h3))))
    clear h3
    go_wp2
    go_ret
    exact ⟨by rw [HE.out]; rfl, HB3.out⟩
   have e3 : decide ((65536 : Int) < (x.n : Int)) = false := decide_eq_false (by omega)
   have e4 : decide (65536 < x.n) = false := decide_eq_false h3
   have HNB : Hid (¬ chBad x.ch) := hid (fun h => by
    rcases h with h | h | h
    · exact h HNM.out
    · exact h HKR.out
    · have h' : 65536 < x.body.length := h
      rw [HBL.out] at h'
      exact h3 h')
   clear h3
   go_wp2_with fail
   clear e3 e4 x0 x1 x2 x3 x4 x5
   go_loopg [38] j (fun k2 iv wq => ∃ k : Nat, iv = .int .i64 (k : Int) ∧ Hid (k2 = j - k) ∧ Hid (k ≤ j) ∧ Hid (∀ k', ∀ h2 : k' < l.length, k' < k → l[k'].nm ≠ x.nm) ∧ Hid (Below w3.heap.size w3 wq))
   case atStart => exact ⟨0, rfl, hid rfl, hid (Nat.zero_le _), hid (fun k' _ h3 => absurd h3 (Nat.not_lt_zero k')), hid (Below.refl _ _)⟩
   case round =>
   obtain ⟨k, rfl, hgk2, hk, hY, hB4⟩ := hrel
   rename World => wq
   have HBQ := hid (HB3.out.trans (hB4.out.mono HB3.out.size))
   have HKQ := hid (HK3.out.keep (hB4.out.block _ HK3.out.lt))
   rcases Nat.lt_or_ge k j with hlt2 | hge2
   · have HKJ := hid hlt2
     have hkl : k < l.length := by have := HJ.out; have := HLN.out; omega
     have k1 : (0 : Int) ≤ (k : Int) := Int.natCast_nonneg k
     have k2 : (k : Int) < (j : Int) := Int.ofNat_lt.2 hlt2
     have k3 : decide ((k : Int) < (j : Int)) = true := decide_eq_true k2
     have k4 : decide (k < j) = true := decide_eq_true hlt2
     have wk : wrap64 ((k : Int) + 1) = ((k + 1 : Nat) : Int) := by have := HN.out; have := HJ.out; unfold wrap64; omega
     obtain ⟨lb2, off2, hbe, -, hbl2, hr2, hy2⟩ := (HH.out.keep HBQ.out.size (fun b _ hb => HBQ.out.block b hb)).at_ hkl
     injection hbe with hbe
     injection hbe with h1 h2 _
     subst h1 h2
     have HDK := hid (HDJ.out k hkl hlt2)
     have HYS : Hid (l[k].nm ≠ x.nm → ∀ k', ∀ h2 : k' < l.length, k' < k + 1 → l[k'].nm ≠ x.nm) := hid (fun hh k' h2 h3 => by
      by_cases e : k' = k
      · subst e; exact hh
      · exact hY.out k' h2 (by omega))
     obtain ⟨y, hy⟩ : ∃ y, l[k]'hkl = y := ⟨_, rfl⟩
     rw [hy] at hr2 HDK HYS
     clear hy
     obtain ⟨c0, c1, c2, c3, c4, c5⟩ := range6 hr2
     have HKY := hid (Blk.new wq 94 #[.string (str y.nm), .int .i64 y.k.t, .int .i64 y.k.c, .int .i64 y.k.e, .slice y.A y.n y.c, .bool y.dr])
     have hby : Below wq.heap.size wq (wq.alloc (.cells #[.string (str y.nm), .int .i64 y.k.t, .int .i64 y.k.c, .int .i64 y.k.e, .slice y.A y.n y.c, .bool y.dr] 94)) := (Below.refl _ _).alloc (nl _) _
     have HB5 := hid (hB4.out.trans (hby.mono hB4.out.size))
     have HB6 := hid (HBQ.out.trans (hby.mono HBQ.out.size))
     have HX5 := hid (HKQ.out.keep (hby.block _ HKQ.out.lt))
     obtain ⟨y0, y1, y2, y3, y4, y5⟩ := hcB_cells (x := y) HKY.out
     have x0 : (wq.alloc (.cells #[.string (str y.nm), .int .i64 y.k.t, .int .i64 y.k.c, .int .i64 y.k.e, .slice y.A y.n y.c, .bool y.dr] 94)).cell? ⟨tb, 0, none⟩ = some (.string (str x.nm)) := (HX5.out.cell 0).trans rfl
     have xq : wq.cell? ⟨tb, 0, none⟩ = some (.string (str x.nm)) := (HKQ.out.cell 0).trans rfl
     have s1 := str_list x.nm
     have s2 := str_list y.nm
     clear hlt2 hkl hbl2 hr2 hy2 hby
     by_cases he : y.nm = x.nm
     · have d1 : (y.nm == x.nm) = true := by rw [he]; exact beq_self_eq_true _
       have d2 : ((str y.nm).toList == (str x.nm).toList) = true := by rw [he]; exact beq_self_eq_true _
       have HE := hid (HDK.out he)
       clear he
       go_wp2
       go_ret
       exact ⟨by rw [HE.out]; rfl, HB6.out⟩
     · have d1 : (y.nm == x.nm) = false := beq_eq_false_iff_ne.2 he
       have d2 : ((str y.nm).toList == (str x.nm).toList) = false := str_ne he
       have HY2 := hid (HYS.out he)
       clear he
       go_wp2_with fail
       go_roundg (j - (k + 1))
       case measure => exact rs_meas hgk2.out HKJ.out
       case rel => exact ⟨k + 1, by first | rfl | rw [wk], hid rfl, hid HKJ.out, HY2, HB5⟩
   have hkj : k = j := by have := hk.out; omega
   subst hkj
   have k2 : ¬ (k : Int) < (k : Int) := fun e => absurd e (Int.lt_irrefl _)
   have HT := hid (HND2.out (fun k' h2 h3 => hY.out k' h2 h3))
   have HO2 : Hid (∀ y ∈ l.take (k + 1), ¬ chBad y.ch) := hid (fun y hy => by
    rw [HTK.out] at hy
    rcases List.mem_append.1 hy with e | e
    · exact hok.out y e
    · rw [List.mem_singleton.1 e]; exact HNB.out)
   clear hge2 hk hgk2
   go_wp2_with fail
   go_roundg (n - (k + 1))
   case measure => exact rs_meas hgk.out HJ.out
   case rel => exact ⟨k + 1, by first | rfl | rw [wj], hid rfl, hid HJ.out, HO2, HT, HBQ⟩
 have hjn : j = n := by have := hj.out; omega
 subst hjn
 have j2 : ¬ (j : Int) < (j : Int) := fun e => absurd e (Int.lt_irrefl _)
 have hta : l.take j = l := List.take_of_length_le (Nat.le_of_eq HLN.out)
 have HON2 := hid (HON.out (by rw [← hta]; exact hok.out) (by rw [← hta]; exact hnd.out))
 clear hge hj hgk hok hnd hta HON
 go_wp2_with fail
 go_loopg [51] j (fun kk iv wq => ∃ (i : Nat), iv = .int .i64 (i : Int) ∧ Hid (kk = j - i) ∧ Hid (i ≤ j) ∧ Hid (∀ x ∈ l.take i, x.dr = true → x.nm ∈ L.map Bb.nm) ∧ Hid (Below wr.heap.size wr wq))
 case atStart => exact ⟨0, rfl, hid rfl, hid (Nat.zero_le _), hid (fun x hx => by cases hx), hB⟩
 case round =>
 obtain ⟨i, rfl, hgk, hi, hok, hB2⟩ := hrel
 clear hB
 rename World => w2
 rcases Nat.lt_or_ge i j with hlt | hge
 · have HI := hid hlt
   have hil : i < l.length := by rw [HLN.out]; exact hlt
   have i1 : (0 : Int) ≤ (i : Int) := Int.natCast_nonneg i
   have i2 : (i : Int) < (j : Int) := Int.ofNat_lt.2 hlt
   have i3 : decide ((i : Int) < (j : Int)) = true := decide_eq_true i2
   have i4 : decide (i < j) = true := decide_eq_true hlt
   have wi : wrap64 ((i : Int) + 1) = ((i + 1 : Nat) : Int) := by have := HN.out; unfold wrap64; omega
   obtain ⟨lb, off, rfl, -, hbl, hr0, hx0⟩ := (HH.out.keep hB2.out.size (fun b _ hb => hB2.out.block b hb)).at_ hil
   have HXM := hid (List.getElem_mem hil)
   have HTK := hid (List.take_succ_eq_append_getElem hil)
   obtain ⟨x, hx⟩ : ∃ x, l[i]'hil = x := ⟨_, rfl⟩
   rw [hx] at hr0 HXM HTK
   clear hx
   obtain ⟨c0, c1, c2, c3, c4, c5⟩ := range6 hr0
   have hb2 : Below w2.heap.size w2 (w2.alloc (.cells #[.string (str x.nm), .int .i64 x.k.t, .int .i64 x.k.c, .int .i64 x.k.e, .slice x.A x.n x.c, .bool x.dr] 94)) := (Below.refl _ _).alloc (nl _) _
   have HB3 := hid (hB2.out.trans (hb2.mono hB2.out.size))
   have hk2 := Blk.new w2 94 #[.string (str x.nm), .int .i64 x.k.t, .int .i64 x.k.c, .int .i64 x.k.e, .slice x.A x.n x.c, .bool x.dr]
   have HK2 := hid hk2
   obtain ⟨x0, x1, x2, x3, x4, x5⟩ := hcB_cells (x := x) hk2
   clear hlt hil hbl hr0 hx0 hb2 hk2
   cases hdr : x.dr with
   | false =>
    have HO2 : Hid (∀ y ∈ l.take (i + 1), y.dr = true → y.nm ∈ L.map Bb.nm) := hid (fun y hy hd => by
     rw [HTK.out] at hy
     rcases List.mem_append.1 hy with e | e
     · exact hok.out y e hd
     · rw [List.mem_singleton.1 e, hdr] at hd; cases hd)
    rw [hdr] at c5 x5 HK2 HB3
    clear hdr
    go_wp2_with (go_quiet (fail))
    have HB6 := hid (HB3.out.trans (Joins.below_draws _ _ nq))
    go_roundg (j - (i + 1))
    case measure => exact rs_meas hgk.out HI.out
    case rel => exact ⟨i + 1, by first | rfl | rw [wi], hid rfl, hid HI.out, HO2, HB6⟩
   | true =>
    have HDR := hid hdr
    rw [hdr] at c5 x5 HK2 HB3
    clear hdr
    have HWS := hid (@without_same L x.nm)
    have HWL : Hid ((without L x.nm).length ≤ 100000) := hid (Nat.le_trans (List.length_filter_le _ _) HLL.out)
    go_wp2_with fail
    clear c0 c1 c2 c3 c4 c5 x0 x1 x2 x3 x4 x5
    obtain ⟨tb, htb⟩ : ∃ tb, w2.heap.size = tb := ⟨_, rfl⟩
    rw [htb] at HK2 ⊢
    generalize w2.alloc (.cells #[.string (str x.nm), .int .i64 x.k.t, .int .i64 x.k.c, .int .i64 x.k.e, .slice x.A x.n x.c, .bool true] 94) = w5 at *
    have hdr2 : Below w5.heap.size w5 w5.drew := (Below.refl _ _).drew
    have HB5 : Hid (Below wr.heap.size wr w5.drew) := hid (HB3.out.trans (hdr2.mono HB3.out.size))
    have HK5 := hid (HK2.out.keep (hdr2.block _ HK2.out.lt))
    have HS5 := hid (HSO.out.bel HB5.out)
    clear hdr2 htb HK2 HB3
    refine wp_region_held_drew (S := fun wx => wx.cell? ⟨gs, 3, none⟩ = some (.slice B L.length kc) ∧ Blk wx tb 94 #[.string (str x.nm), .int .i64 x.k.t, .int .i64 x.k.c, .int .i64 x.k.e, .slice x.A x.n x.c, .bool true]) (by kernel_rfl) ⟨HS5.out.cells.2.2.2.1, HK5.out⟩ (fun HS => ?_)
    refine qT 0 ?vg0 ?yg0 HS ?rg0
    case yg0 => refine qI fun wS hSw => ?_; go_simp; try with_reducible rfl
    try simp only [Act.put, zA]
    refine qT 1 ?vg1 ?yg1 HS ?rg1
    case yg1 =>
     refine qI fun wS hSw => ?_
     have y5 := (hSw.2.cell 5).trans rfl
     have g3 := hSw.1
     go_simp
     try with_reducible rfl
    try simp only [Act.put, zA]
    refine qT 2 ?vg2 ?yg2 HS ?rg2
    case yg2 => refine qI fun wS hSw => ?_; go_simp; try with_reducible rfl
    try simp only [Act.put, zA]
    refine qT 3 ?vg3 ?yg3 HS ?rg3
    case yg3 => refine qI fun wS hSw => ?_; go_simp; try with_reducible rfl
    try simp only [Act.put, zA]
    refine qT 4 ?vg4 ?yg4 HS ?rg4
    case yg4 => refine qI fun wS hSw => ?_; go_simp; try with_reducible rfl
    try simp only [Act.put, zA]
    refine qT 5 ?vg5 ?yg5 HS ?rg5
    case yg5 => refine qI fun wS hSw => ?_; go_simp; try with_reducible rfl
    try simp only [Act.put, zA]
    refine qT 6 ?vg6 ?yg6 HS ?rg6
    case yg6 =>
     refine qI fun wS hSw => ?_
     have y0 := (hSw.2.cell 0).trans rfl
     have g3 := hSw.1
     go_simp
     try with_reducible rfl
    try simp only [Act.put, zA]
    refine qT 7 ?vg7 ?yg7 HS ?rg7
    case yg7 => refine qI fun wS hSw => ?_; go_simp; try with_reducible rfl
    try simp only [Act.put, zA]
    refine qT 8 ?vg8 ?yg8 HS ?rg8
    case yg8 =>
     refine qI fun wS hSw => ?_
     have y0 := (hSw.2.cell 0).trans rfl
     have g3 := hSw.1
     go_simp
     try with_reducible rfl
    try simp only [Act.put, zA]
    refine qT 11 ?vg11 ?yg11 HS ?rg11
    case yg11 => refine qI fun wS hSw => ?_; go_simp; try with_reducible rfl
    try simp only [Act.put, zA]
    refine qT 12 ?vg12 ?yg12 HS ?rg12
    case yg12 => refine qI fun wS hSw => ?_; go_simp; try with_reducible rfl
    try simp only [Act.put, zA]
    refine qT 13 ?vg13 ?yg13 HS ?rg13
    case yg13 => refine qI fun wS hSw => ?_; go_simp; try with_reducible rfl
    try simp only [Act.put, zA]
    refine qT 14 ?vg14 ?yg14 HS ?rg14
    case yg14 =>
     refine qI fun wS hSw => ?_
     have y0 := (hSw.2.cell 0).trans rfl
     have g3 := hSw.1
     go_simp
     try with_reducible rfl
    try simp only [Act.put, zA]
    refine qT 15 ?vg15 ?yg15 HS ?rg15
    case yg15 => refine qI fun wS hSw => ?_; go_simp; try with_reducible rfl
    try simp only [Act.put, zA]
    refine qR 9 fun K hK => ?_
    rw [if_pos (by rfl)]
    go_simp
    refine (rwithout_c B L.length kc L x.nm w5.drew (by have := (HS5.out.row).sl; exact this) HLL.out).mono ?_
    rintro e w6 ⟨A6, c6, rfl, hr6, hb6⟩
    have HB6 : Hid (Below wr.heap.size wr w6) := hid (HB5.out.trans (hb6.mono HB5.out.size))
    have HK6 := hid (HK5.out.keep (hb6.block _ HK5.out.lt))
    have HS6 := hid (HSO.out.bel HB6.out)
    obtain ⟨m, hm⟩ : ∃ m, (without L x.nm).length = m := ⟨_, rfl⟩
    rw [hm] at HWL ⊢
    have HME := hid hm
    clear hb6 hr6 hm
    refine hK.out _ _ ⟨HS6.out.cells.2.2.2.1, HK6.out⟩ (fun HS => ?_)
    clear hK K
    try simp only [Act.put, zA]
    refine qT 10 ?vg10 ?yg10 HS ?rg10
    case yg10 => refine qI fun wS hSw => ?_; go_simp; try with_reducible rfl
    try simp only [Act.put, zA]
    refine qT 16 ?vg16 ?yg16 HS ?rg16
    case yg16 => refine qI fun wS hSw => ?_; go_simp; try with_reducible rfl
    try simp only [Act.put, zA]
    refine qT 17 ?vg17 ?yg17 HS ?rg17
    case yg17 => refine qI fun wS hSw => ?_; go_simp; try with_reducible rfl
    try simp only [Act.put, zA]
    refine qD ?_
    clear HS
    by_cases hmem : x.nm ∈ L.map Bb.nm
    · have HO2 : Hid (∀ y ∈ l.take (i + 1), y.dr = true → y.nm ∈ L.map Bb.nm) := hid (fun y hy hd => by
       rw [HTK.out] at hy
       rcases List.mem_append.1 hy with e | e
       · exact hok.out y e hd
       · rw [List.mem_singleton.1 e]; exact hmem)
      have z : ((m : Int) == (L.length : Int)) = false := by
       have : m ≠ L.length := fun e => HWS.out.1 (by rw [HME.out]; exact e) hmem
       simp; omega
      have z1 : ¬ (m : Int) = (L.length : Int) := by simpa using z
      clear hmem
      go_wp2_with fail
      go_roundg (j - (i + 1))
      case measure => exact rs_meas hgk.out HI.out
      case rel => exact ⟨i + 1, by first | rfl | rw [wi], hid rfl, hid HI.out, HO2, HB6⟩
    · have hme : m = L.length := by rw [← HME.out]; exact HWS.out.2 hmem
      have HE := hid (HON2.out.1 ⟨x, HXM.out, HDR.out, hmem⟩)
      have z : ((m : Int) == (L.length : Int)) = true := by rw [hme]; simp
      clear hmem
      subst hme
      go_wp2
      go_ret
      exact ⟨by rw [HE.out]; rfl, HB6.out⟩
 have hij : i = j := by have := hi.out; omega
 subst hij
 have i2 : ¬ (i : Int) < (i : Int) := fun e => absurd e (Int.lt_irrefl _)
 have hta : l.take i = l := List.take_of_length_le (Nat.le_of_eq HLN.out)
 have HE := hid (HON2.out.2 (by rw [← hta]; exact hok.out))
 clear hge hi hgk hta
 go_wp2
 go_ret
 exact ⟨by rw [HE.out]; rfl, hB2.out⟩
end
end Go.Proofs.YtolaojkcofbkhaaGreat
