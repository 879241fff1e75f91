/- What slices.DeleteFunc does to the writes that wait. -/
import Derived.Test.YtdgcoipflenlgaaDvDel
namespace Go.Proofs.Ytdgcoipflenlgaa
open Go.RowKit

/-- Of some writes those of other blocks. -/
def fil (W : Wr) (i : Nat) : Wr := W.filter fun x => decide (x.1 ≠ i)
theorem fil_snoc (W : Wr) (i : Nat) (x : Nat × List UInt8) : fil (W ++ [x]) i = fil W i ++ (if x.1 = i then [] else [x]) := by
  unfold fil
  rw [List.filter_append]
  congr 1
  by_cases h : x.1 = i <;> simp [h]
theorem fil_all (W : Wr) (i : Nat) (h : ∀ x ∈ W, x.1 ≠ i) : fil W i = W := List.filter_eq_self.2 fun x hx => by simpa using h x hx
theorem fil_len (W : Wr) (i : Nat) : (fil W i).length ≤ W.length := List.length_filter_le _ _

/-- In the midst of the loop: p writes are kept of the first j. -/
structure Del (w wr : World) (bw c : Nat) (W V : Wr) (i p j : Nat) : Prop where
  own : wr.ownsRow 0 65 17 (.slice (some ⟨bw, 0, none⟩) V.length c) V.length (wcs V)
  len : V.length = W.length
  V16 : ∀ x ∈ V, x.2.length = 16
  head : V.take p = fil (W.take j) i
  p_ : p = (fil (W.take j) i).length
  tail : V.drop j = W.drop j
  pj : p < j
  jl : j ≤ W.length
  gr : w.grownBy wr (some bw)
  lt : bw < w.heap.size
section
variable {w wr : World} {bw c i p j : Nat} {W V : Wr}
theorem Del.bel (h : Del w wr bw c W V i p j) {wr' : World} (hb : Below wr.heap.size wr wr') : Del w wr' bw c W V i p j :=
  ⟨own_keep h.own fun b hA => hb.block b (own_lt h.own b hA), h.len, h.V16, h.head, h.p_, h.tail, h.pj, h.jl, h.gr.trans ⟨hb.os, hb.tape, hb.output, hb.size, fun k hk _ => hb.block k hk⟩, h.lt⟩
theorem Del.at_ (h : Del w wr bw c W V i p j) (hj : j < W.length) : V[j]'(by rw [h.len]; exact hj) = W[j] := by
  have hv : j < V.length := by rw [h.len]; exact hj
  have h1 := List.drop_eq_getElem_cons hv
  have h2 := List.drop_eq_getElem_cons hj
  rw [h.tail, h2] at h1
  injection h1 with h1
  exact h1.symm
theorem Del.drop (h : Del w wr bw c W V i p j) (hj : j < W.length) (he : W[j].1 = i) : Del w wr bw c W V i p (j + 1) := by
  have e : fil (W.take (j + 1)) i = fil (W.take j) i := by rw [List.take_succ_eq_append_getElem hj, fil_snoc, if_pos he, List.append_nil]
  refine ⟨h.own, h.len, h.V16, by rw [e]; exact h.head, by rw [e]; exact h.p_, ?_, by have := h.pj; omega, hj, h.gr, h.lt⟩
  rw [← List.drop_drop, h.tail, List.drop_drop]
theorem Del.keep (h : Del w wr bw c W V i p j) (hj : j < W.length) (hne : W[j].1 ≠ i) (h16 : W[j].2.length = 16) : Del w (wr.setCells bw (p * 17) (wc W[j].1 W[j].2)) bw c W (V.set p (W[j].1, W[j].2)) i (p + 1) (j + 1) := by
  have e : fil (W.take (j + 1)) i = fil (W.take j) i ++ [W[j]] := by rw [List.take_succ_eq_append_getElem hj, fil_snoc, if_neg hne]
  have hp : p < V.length := by rw [h.len]; have := h.pj; omega
  refine ⟨?_, by simp [h.len], fun x hx => ?_, ?_, by rw [e, List.length_append, ← h.p_, List.length_singleton], ?_, by have := h.pj; omega, hj, h.gr.trans (grown_setCells bw _ _ _), h.lt⟩
  · have := own_set h.own h.V16 hp W[j].1 W[j].2 h16
    rw [List.length_set]
    exact this
  · rcases List.mem_or_eq_of_mem_set hx with hx | hx
    · exact h.V16 x hx
    · rw [hx]; exact h16
  · rw [e, ← h.head, List.take_succ_eq_append_getElem (by simpa using hp), List.take_set_of_le (Nat.le_refl _), List.getElem_set_self]
  · rw [List.drop_set_of_lt (by have := h.pj; omega), ← List.drop_drop, h.tail, List.drop_drop]
end

set_option maxRecDepth 20000 in
set_option maxHeartbeats 4000000 in
theorem delete_c (w : World) (A : Option Addr) (c : Nat) (W : Wr) (hown : w.ownsRow 0 65 17 (.slice A W.length c) W.length (wcs W)) (hW : ∀ x ∈ W, x.2.length = 16) (hl : W.length ≤ 1000000) (i vi : Nat) (hvi : w.cell? ⟨vi, 0, none⟩ = some (.int .i64 (i : Int))) (hA : ∀ b, A.map (·.block) = some b → b ≠ vi) :
    Calls Try.prog 33 #[.slice A W.length c, .func (.func 34) #[] #[.pointer (some ⟨vi, 0, none⟩)]] w fun e w' =>
      e = .returned (.slice A (fil W i).length c) ∧ w'.ownsRow 0 65 17 (.slice A (fil W i).length c) (fil W i).length (wcs (fil W i)) ∧ w.grownBy w' (A.map (·.block)) := by
  have HO := hid hown
  have HW := hid hW
  have HL := hid hl
  have HV := hid hvi
  have HA := hid hA
  clear hown hW hl hvi hA
  go_enter Try.func33, Try.ntmps33
  go_wp2_with fail
  refine (index_c w A c W HO.out HW.out HL.out i vi HV.out).mono ?_
  rintro e w1 ⟨hb1, ⟨p, hp, hpi, hbefore, rfl⟩ | ⟨hno, rfl⟩⟩
  · obtain ⟨b, hAb, hbl, -⟩ := own_range HO.out (by omega)
    subst hAb
    have e1 : ((p : Int) == -1) = false := beq_false_of_ne (by omega)
    obtain ⟨pn, hpn⟩ : ∃ pn, pn = p + 1 := ⟨_, rfl⟩
    have wp1 : wrap64 ((p : Int) + 1) = (pn : Int) := by have := HL.out; unfold wrap64; omega
    have HBV : Hid (b ≠ vi) := hid (HA.out b rfl)
    have HD0 : Hid (Del w w1 b c W W i p (p + 1)) := hid (by
      have e : fil (W.take p) i = W.take p := fil_all _ _ fun x hx => by
        obtain ⟨t, ht, he⟩ := List.getElem_of_mem hx
        rw [List.getElem_take] at he
        rw [← he]
        simp at ht
        exact hbefore t (by omega) (by omega)
      have e2 : fil (W.take (p + 1)) i = W.take p := by rw [List.take_succ_eq_append_getElem hp, fil_snoc, if_pos hpi, List.append_nil, e]
      exact ⟨own_keep HO.out fun b hA => hb1.block b (own_lt HO.out b hA), rfl, HW.out, e2.symm, by rw [e2]; simp; omega, rfl, by omega, by omega, ⟨hb1.os, hb1.tape, hb1.output, hb1.size, fun k hk _ => hb1.block k hk⟩, hbl⟩)
    rw [← hpn] at HD0
    clear hb1 hpi hbefore HO HA hpn
    go_wp2_with fail
    rw [wp1]
    go_loopw [5, 6] (fun pv iv wr => ∃ (p j : Nat) (V : Wr), pv = .int .i64 (p : Int) ∧ iv = .int .i64 (j : Int) ∧ Hid (Del w wr b c W V i p j)) (fun _ iv _ => W.length - (intOf iv).toNat)
    case atStart => exact ⟨p, pn, W, rfl, rfl, HD0⟩
    case round =>
      obtain ⟨p, j, V, rfl, rfl, hD⟩ := hrel
      clear HD0 e1 wp1 hp
      have HLV := hid hD.out.len
      rcases Nat.lt_or_ge j W.length with hlt | hge
      · have hR0 := own_elem hD.out.own hD.out.V16 (j := j) (by rw [hD.out.len]; exact hlt)
        rw [hD.out.at_ hlt] at hR0
        have hx := HW.out W[j] (List.getElem_mem hlt)
        have hvi : ∀ wx, Below wr.heap.size wr wx → wx.cell? ⟨vi, 0, none⟩ = some (.int .i64 (i : Int)) := fun wx hb => by
          have h1 : wr.heap[vi]? = w.heap[vi]? := hD.out.gr.block vi (block_lt0 HV.out) (fun e => HBV.out (by injection e with e; exact e.symm))
          have h2 : vi < wr.heap.size := Nat.lt_of_lt_of_le (block_lt0 HV.out) hD.out.gr.size
          rw [World.cell?_of_block (hb.block vi h2), World.cell?_of_block h1]
          exact HV.out
        have HVI := hid hvi
        have HR := hid hR0
        obtain ⟨d, hd1, hd2⟩ := Try.undW2
        have HD := hid (And.intro hd1 hd2)
        have HDR := hid (fun he => hD.out.drop hlt he)
        have HKE := hid (fun wx (hb : Below wr.heap.size wr wx) hne => (hD.out.bel hb).keep hlt hne hx)
        have HX := hid hx
        obtain ⟨x, hxq⟩ : ∃ x, x = W[j].1 := ⟨_, rfl⟩
        obtain ⟨bb, hbq⟩ : ∃ bb, bb = W[j].2 := ⟨_, rfl⟩
        rw [← hxq] at HDR HKE HR
        rw [← hbq] at HR HKE HX
        have HIN : Hid ((Try.prog.info? 65).map (·.size) = some (wc x bb).length) := hid (by rw [wc_len HX.out]; exact Try.infoW1)
        have HT : Hid ((wr.alloc (.cells #[.int .i64 0, .int .u8 0, .int .u8 0, .int .u8 0, .int .u8 0, .int .u8 0, .int .u8 0, .int .u8 0, .int .u8 0, .int .u8 0, .int .u8 0, .int .u8 0, .int .u8 0, .int .u8 0, .int .u8 0, .int .u8 0, .int .u8 0] 65)).there wr.heap.size 0 (wc x bb).toArray.size) := hid (by show World.there _ _ 0 (wc x bb).length; rw [wc_len HX.out]; exact z17 wr)
        have HC : Hid ((wc x bb).toArray.all (·.oneCell') = true) := hid (all_oneCell_toArray (wc_one x bb))
        have HVR : Hid (((wr.alloc (.cells #[.int .i64 0, .int .u8 0, .int .u8 0, .int .u8 0, .int .u8 0, .int .u8 0, .int .u8 0, .int .u8 0, .int .u8 0, .int .u8 0, .int .u8 0, .int .u8 0, .int .u8 0, .int .u8 0, .int .u8 0, .int .u8 0, .int .u8 0] 65)).setCells wr.heap.size 0 (wc x bb)).rangeAt wr.heap.size 0 (wc x bb) ∧ Below wr.heap.size wr ((wr.alloc (.cells #[.int .i64 0, .int .u8 0, .int .u8 0, .int .u8 0, .int .u8 0, .int .u8 0, .int .u8 0, .int .u8 0, .int .u8 0, .int .u8 0, .int .u8 0, .int .u8 0, .int .u8 0, .int .u8 0, .int .u8 0, .int .u8 0, .int .u8 0] 65)).setCells wr.heap.size 0 (wc x bb)) ∧ wr.heap.size < ((wr.alloc (.cells #[.int .i64 0, .int .u8 0, .int .u8 0, .int .u8 0, .int .u8 0, .int .u8 0, .int .u8 0, .int .u8 0, .int .u8 0, .int .u8 0, .int .u8 0, .int .u8 0, .int .u8 0, .int .u8 0, .int .u8 0, .int .u8 0, .int .u8 0] 65)).setCells wr.heap.size 0 (wc x bb)).heap.size) := hid ⟨World.rangeAt_setCells_same _ _ _ _ (by rw [wc_len HX.out]; exact z17 wr), (Var.of wr x bb HX.out).bel, (Var.of wr x bb HX.out).lt⟩
        have j1 : (0 : Int) ≤ (j : Int) := by omega
        have j2 : (j : Int) < (W.length : Int) := by omega
        have j3 : decide ((j : Int) < (W.length : Int)) = true := by simpa using hlt
        have j4 : decide (j < W.length) = true := by simpa using hlt
        have p1 : (0 : Int) ≤ (p : Int) := by omega
        have p2 : (p : Int) < (W.length : Int) := by have := hD.out.pj; omega
        have wj : wrap64 ((j : Int) + 1) = ((j + 1 : Nat) : Int) := by have := HL.out; unfold wrap64; omega
        have wp : wrap64 ((p : Int) + 1) = ((p + 1 : Nat) : Int) := by have := HL.out; have := hD.out.pj; unfold wrap64; omega
        have HPV : Hid (p < V.length) := hid (by rw [hD.out.len]; have := hD.out.pj; omega)
        have HOW := hid (fun wx (hb : Below wr.heap.size wr wx) => own_there (hD.out.bel hb).own (o := p * 17) (k := 17) (by have := HPV.out; omega))
        have CL := hid (fun wx (hb : Below wr.heap.size wr wx) => clo_c x bb HX.out i vi wx (HVI.out wx hb))
        clear hx hvi hR0 hd1 hd2 hxq hbq HVI HX HPV
        generalize wc x bb = E at *
        as_aux_lemma =>
        go_upto_region 8 with (first | (refine wpList_load_mid rfl 65 _ rfl b (j * 17) rfl E d HR.out HD.out.1 HD.out.2 HIN.out ?_) | (refine wpList_store_mid rfl 65 _ _ rfl _ _ E.toArray rfl rfl HT.out HIN.out HC.out ?_))
        simp only [Act.put]
        generalize (wr.alloc (.cells #[.int .i64 0, .int .u8 0, .int .u8 0, .int .u8 0, .int .u8 0, .int .u8 0, .int .u8 0, .int .u8 0, .int .u8 0, .int .u8 0, .int .u8 0, .int .u8 0, .int .u8 0, .int .u8 0, .int .u8 0, .int .u8 0, .int .u8 0] 65)).setCells wr.heap.size 0 E = w2 at *
        clear HR HT
        go_wp2_with (refine wpList_load_mid rfl 65 _ rfl wr.heap.size 0 rfl E d HVR.out.1 HD.out.1 HD.out.2 HIN.out ?_)
        refine (CL.out w2 HVR.out.2.1).mono ?_
        rintro e w3 ⟨rfl, hb3⟩
        have HB3 : Hid (Below wr.heap.size wr w3) := hid (HVR.out.2.1.trans (hb3.mono HVR.out.2.1.size))
        have HR3 : Hid (w3.rangeAt wr.heap.size 0 E) := hid (rangeAt_keep HVR.out.1 (hb3.block _ HVR.out.2.2))
        clear hb3 HVR CL
        by_cases hxi : x = i
        · have e1 : decide (x = i) = true := by simpa using hxi
          rw [e1]
          have HD9 := hid ((HDR.out hxi).bel HB3.out)
          clear hxi e1
          go_wp2
          exact ⟨⟨p, j + 1, V, rfl, congrArg (Value.int .i64) wj, HD9⟩, by rw [wj]; simp [intOf]; omega⟩
        · have e1 : decide (x = i) = false := by simpa using hxi
          rw [e1]
          have HD9 := hid (HKE.out w3 HB3.out hxi)
          have HT9 : Hid (w3.there b (p * 17) E.toArray.size) := hid (by
            have h0 := HIN.out
            rw [Try.infoW1] at h0
            injection h0 with h0
            show World.there _ _ _ E.length
            rw [← h0]
            exact HOW.out w3 HB3.out)
          clear hxi e1 HKE HDR HOW
          go_wp2_with (first | (refine wpList_load_mid rfl 65 _ rfl wr.heap.size 0 rfl E d HR3.out HD.out.1 HD.out.2 HIN.out ?_) | (refine wpList_store_mid rfl 65 _ _ rfl b (p * 17) E.toArray rfl rfl HT9.out HIN.out HC.out ?_))
          exact ⟨⟨p + 1, j + 1, _, congrArg (Value.int .i64) wp, congrArg (Value.int .i64) wj, HD9⟩, by show W.length - (intOf (.int .i64 (wrap64 ((j : Int) + 1)))).toNat < _; rw [wj]; simp [intOf]; omega⟩
      · have HJ : Hid (j = W.length) := hid (by have := hD.out.jl; omega)
        have j3 : decide ((j : Int) < (W.length : Int)) = false := by simp; omega
        have j4 : decide (j < W.length) = false := by simp; omega
        have p1 : (0 : Int) ≤ (p : Int) := by omega
        have p2 : (p : Int) ≤ (W.length : Int) := by have := hD.out.pj; have := hD.out.jl; omega
        have p3 : (W.length : Int) ≤ (c : Int) := by
          obtain ⟨_, _, hnc, _⟩ := own_parts hD.out.own
          rw [hD.out.len] at hnc
          omega
        have hpl : p < W.length := by have := hD.out.pj; have := HJ.out; omega
        have hjW := HJ.out
        obtain ⟨Z, hZ, hcl⟩ := run_clear_w wr 0 b (p * 17) (W.length - p) (c - p) (by omega) (own_there hD.out.own (by rw [hD.out.len]; omega))
        have hfin := own_cut hD.out.own hD.out.V16 (p := p) (by rw [hD.out.len]; omega) Z (by rw [hZ, hD.out.len]; omega)
        have ef : fil (W.take j) i = fil W i := by rw [HJ.out, List.take_length]
        rw [hD.out.head, ef] at hfin
        have ep : p = (fil W i).length := by rw [← ef]; exact hD.out.p_
        have HFIN := hid hfin
        have HG : Hid (w.grownBy (wr.setCells b (p * 17) Z) (some b)) := hid (hD.out.gr.trans (grown_setCells b Z _ _))
        have HEP := hid ep
        generalize wr.setCells b (p * 17) Z = w9 at *
        clear hD hZ hfin ef ep hge HJ
        as_aux_lemma =>
        go_wp2
        go_ret
        have hp9 := HEP.out
        subst hp9
        exact ⟨rfl, HFIN.out, HG.out⟩
  · have e1 : ((-1 : Int) == -1) = true := rfl
    have ef := fil_all W i hno
    have HF := hid ef
    have HB1 := hid hb1
    clear ef hno hb1
    go_wp2
    go_ret
    rw [HF.out]
    exact ⟨rfl, own_keep HO.out fun b hA => HB1.out.block b (own_lt HO.out b hA), ⟨HB1.out.os, HB1.out.tape, HB1.out.output, HB1.out.size, fun k hk _ => HB1.out.block k hk⟩⟩
end Go.Proofs.Ytdgcoipflenlgaa
