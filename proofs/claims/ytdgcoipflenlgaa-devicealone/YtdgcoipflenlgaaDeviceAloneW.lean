/- The walk of DeviceAlone: for every input the law answers true. -/
import Derived.Test.YtdgcoipflenlgaaDvPair
namespace Go.Proofs.Ytdgcoipflenlgaa
open Go.RowKit

theorem alone_long (bA : Option Addr) (bn bc : Nat) (v : Value) (w : World) (h : 16 < bn) :
    Calls Try.prog 6 #[.slice bA bn bc, v] w fun e w' => e = .returned (.bool true) ∧ Below w.heap.size w w' := by
  have e1 : decide ((16 : Int) < (bn : Int)) = true := by simp; omega
  clear h
  go_enter Try.func6, Try.ntmps6
  go_wp2_with fail
  refine (first_c w).mono ?_
  rintro e w1 ⟨rfl, hb1⟩
  have HB1 := hid hb1
  clear hb1
  go_wp2
  go_ret
  exact ⟨rfl, HB1.out⟩

/-- The marks of a crash that keeps all, so far. -/
def fl (N j : Nat) : Array Value := ((List.range N).map fun i => Value.bool (decide (i < j))).toArray
theorem fl_zero (N : Nat) : fl N 0 = (zeros N (.bool false)).toArray := by
  unfold fl zeros
  congr 1
  apply List.ext_getElem <;> simp
theorem fl_set (N j : Nat) : (fl N j).setIfInBounds j (.bool true) = fl N (j + 1) := by
  unfold fl
  apply Array.ext
  · simp
  · intro i h1 h2
    simp at h1 h2
    simp only [List.setIfInBounds_toArray, List.getElem_toArray, List.getElem_set, List.getElem_map, List.getElem_range]
    split
    · rename_i e; subst e; simp
    · rename_i e
      have : (i < j) = (i < j + 1) := by apply propext; constructor <;> intro <;> omega
      simp only [this]
theorem fl_full (N : Nat) : (fl N N).toList = (List.replicate N true).map Value.bool := by
  unfold fl
  apply List.ext_getElem
  · simp
  · intro i h1 h2
    simp at h1
    simp [h1]

/-- What holds of both devices. -/
structure AlSt (s : St) (l : List UInt8) (j : Nat) : Prop where
  n9 : s.n = 9
  lim : s.lim = none
  at8 : app s.W s.K 8 = pad l
  len : s.W.length ≤ j + 1
theorem AlSt.put {s : St} {l : List UInt8} {j k : Nat} (h : AlSt s l j) (hk : k < 8) (b : List UInt8) : AlSt (s.put k b).dec l (j + 1) :=
  ⟨h.n9, by show s.lim.map _ = none; rw [h.lim]; rfl, by show app (s.W ++ [(k, pad b)]) s.K 8 = _; rw [app_snoc, upd_other _ _ (by omega)]; exact h.at8, by show (s.W ++ [(k, pad b)]).length ≤ _; rw [List.length_append]; have := h.len; simp; omega⟩
theorem AlSt.next {s : St} {l : List UInt8} {j : Nat} (h : AlSt s l j) : AlSt s l (j + 1) := ⟨h.n9, h.lim, h.at8, by have := h.len; omega⟩

set_option maxRecDepth 20000 in
set_option maxHeartbeats 8000000 in
theorem alone_core (bA : Option Addr) (bn bc : Nat) (l : List UInt8) (A : Option Addr) (n c : Nat) (w : World) (hb : Bts w 0 w.heap.size bA bn l) (hbn : bn ≤ 16) (hops : Ops w w.heap.size A n) (hn : n ≤ 9223372036854775807) :
    Calls Try.prog 6 #[.slice bA bn bc, .slice A n c] w fun e w' => e = .returned (.bool true) ∧ Below w.heap.size w w' := by
  have e1 : decide ((16 : Int) < (bn : Int)) = false := by simp; omega
  have HBN := hid hbn
  have HBT := hid hb
  have HOPS := hid hops
  have HN := hid hn
  have HLL : Hid (l.length ≤ 16) := hid (by rw [hb.len]; exact hbn)
  clear hb hbn hops hn
  go_enter Try.func6, Try.ntmps6
  go_wp2_with fail
  refine (first_c w).mono ?_
  rintro e w1 ⟨rfl, hb1⟩
  have HB1 := hid hb1
  clear hb1
  go_wp2_with fail
  refine (new_c 9 w1 (by decide) (by decide)).mono ?_
  rintro e w2 ⟨g, F, rfl, hd2, hb2, hF2⟩
  have HD2 := hid hd2
  have HB2 := hid hb2
  have HF2 := hid hF2
  clear hd2 hb2 hF2
  go_wp2_with fail
  refine (new_c 9 w2 (by decide) (by decide)).mono ?_
  rintro e w3 ⟨h, G, rfl, hd3, hb3, hF3⟩
  have HP3 : Hid (Pair w w3 g h (St.new 9) (St.new 9)) := hid ⟨F, G, HD2.out.bel hb3, hd3, fun j hj hg => by have := HD2.out.lt j hj; have := hF3 j hg; omega, fun j hj => Nat.le_trans HB1.out.size (HF2.out j hj), fun j hj => Nat.le_trans HB1.out.size (Nat.le_trans HB2.out.size (hF3 j hj)), (HB1.out.trans (HB2.out.mono HB1.out.size)).trans (hb3.mono (Nat.le_trans HB1.out.size HB2.out.size))⟩
  clear hd3 hb3 hF3 HD2 HB2 HF2 HB1
  go_wp2_with fail
  obtain ⟨Fa, hda, hFa, hna⟩ := HP3.out.one
  refine (write_c w3 Fa g (St.new 9) hda 8 (by decide) bA bn bc l ((HBT.out.below HP3.out.below (Nat.le_refl _)).wide (Nat.le_refl _) HP3.out.below.size) (fun h0 u hu e => by have := HBT.out.lt h0 u hu; have := hFa u e; omega) HBN.out (by decide) (by decide)).mono ?_
  rintro e w4 ⟨rfl, hL⟩
  have HP4 := hid (hna _ _ hL)
  clear hda hFa hna hL HP3
  go_wp2_with fail
  obtain ⟨Fa, hda, hFa, hna⟩ := HP4.out.two
  refine (write_c w4 Fa h (St.new 9) hda 8 (by decide) bA bn bc l ((HBT.out.below HP4.out.below (Nat.le_refl _)).wide (Nat.le_refl _) HP4.out.below.size) (fun h0 u hu e => by have := HBT.out.lt h0 u hu; have := hFa u e; omega) HBN.out (by decide) (by decide)).mono ?_
  rintro e w5 ⟨rfl, hL⟩
  have HP5 := hid (hna _ _ hL)
  have HA5 : Hid (AlSt ((St.new 9).put 8 l).dec l 0) := hid ⟨rfl, rfl, by show app ([] ++ [(8, pad l)]) zero 8 = _; rw [app_snoc, upd_same], Nat.le_refl _⟩
  have HW5 : Hid ((((St.new 9).put 8 l).dec.W.length : Int) = 1) := hid rfl
  generalize ((St.new 9).put 8 l).dec = s5 at *
  clear hda hFa hna hL HP4
  go_wp2_with fail
  go_loopw [9, 43] (fun nv iv wr => ∃ (j : Nat) (s : St), iv = .int .i64 (j : Int) ∧ nv = .int .i64 (s.W.length : Int) ∧ Hid (j ≤ n) ∧ Hid (j ≤ 60) ∧ Hid (AlSt s l j) ∧ Hid (Pair w wr g h s s)) (fun _ iv _ => n - (intOf iv).toNat)
  case atStart => exact ⟨0, s5, rfl, congrArg (Value.int .i64) HW5.out.symm, hid (Nat.zero_le _), hid (by decide), HA5, HP5⟩
  case round =>
    obtain ⟨j, s, rfl, rfl, hj, hj60, hA, hP⟩ := hrel
    clear HP5 HA5 HW5
    rcases Nat.lt_or_ge j n with hlt | hge
    · have HLT := hid hlt
      obtain ⟨b, off, o, rfl, hbl, hR0, hO0⟩ := HOPS.out j hlt
      have HOW := hid hO0
      have HO := hid (hO0.below hP.out.below)
      have hR := rangeAt_keep hR0 (hP.out.below.block b hbl)
      have HR := hid hR
      obtain ⟨d, hd1, hd2⟩ := Try.undO
      have HD := hid (And.intro hd1 hd2)
      have HIN : Hid ((Try.prog.info? 34).map (·.size) = some o.cells.length) := hid Try.infoO
      have HT : Hid ((wr.alloc (.cells #[.int .i64 0, .int .i64 0, .slice none 0 0, .slice none 0 0] 34)).there wr.heap.size 0 o.cells.toArray.size) := hid (z4 wr)
      have HC := hid (ocells o)
      have HV : Hid (VarO wr ((wr.alloc (.cells #[.int .i64 0, .int .i64 0, .slice none 0 0, .slice none 0 0] 34)).setCells wr.heap.size 0 o.cells) o) := hid (VarO.of wr o)
      have j1 : (0 : Int) ≤ (j : Int) := by omega
      have j2 : (j : Int) < (n : Int) := by omega
      have j3 : decide ((j : Int) < (n : Int)) = true := by simpa using hlt
      have j4 : decide (j < n) = true := by simpa using hlt
      have wj : wrap64 ((j : Int) + 1) = ((j + 1 : Nat) : Int) := by have := hj60.out; unfold wrap64; omega
      clear hR hR0 hO0 hd1 hd2 hbl
      generalize o.cells = E at *
      as_aux_lemma =>
      go_upto_region 13 with (first | (refine wpList_load_mid rfl 34 _ rfl b (off + j * 4) rfl E d HR.out HD.out.1 HD.out.2 HIN.out ?_) | (refine wpList_store_mid rfl 34 _ _ rfl _ _ E.toArray rfl rfl HT.out HIN.out HC.out ?_))
      simp only [Act.put]
      generalize (wr.alloc (.cells #[.int .i64 0, .int .i64 0, .slice none 0 0, .slice none 0 0] 34)).setCells wr.heap.size 0 E = w2 at *
      obtain ⟨x0, x1, x2, -⟩ := HV.out.keep rfl
      clear HR HT HC HIN HD
      have HP2 : Hid (PairV w w2 g h s s wr.heap.size) := hid (hP.out.avoid HV.out.bel HV.out.lt)
      have HOK : Hid (o.ok w w.heap.size) := hid HOW.out
      have HBO : Hid (Bts w2 0 w2.heap.size o.BA o.Bn o.l) := hid ((HO.out.b.below (HV.out.bel.mono hP.out.below.size) (Nat.le_refl _)).wide (Nat.le_refl _) (Nat.le_trans hP.out.below.size HV.out.bel.size))
      by_cases h60 : j = 60
      · have k1 : decide ((60 : Int) ≤ (j : Int)) = true := by simp; omega
        have HPX := hid HP2.out.pair
        clear HP2 HBO HOK HO HV hP x0 x1 x2
        have HLen : Hid (s.W.length ≤ 1000000) := hid (by have := hA.out.len; have := hj60.out; omega)
        have HPW : Hid (Pair w w2 g h s s) := HPX
        have HCR : Hid (s.crash (List.replicate s.W.length true) = s.sync.dec) := hid (by
          have hk : ke s.W (List.replicate s.W.length true) = s.W := ke_all _ _ s.W rfl (fun j hj => by simp [hj])
          show St.mk s.n (app (ke s.W (List.replicate s.W.length true)) s.K) [] none = St.mk s.n (app s.W s.K) [] (s.lim.map _)
          rw [hk, hA.out.lim]
          rfl)
        have H9 := hid hA.out.n9
        have HLM := hid hA.out.lim
        clear hA
        as_aux_lemma =>
        go_wp2_with (at_make; refine wpList_make_new _ rfl _ _ 32 rfl 4 (.bool false) 1 Try.underlying32 (by kernel_rfl) rfl (s.W.length : Int) (s.W.length : Int) s.W.length s.W.length rfl rfl rfl rfl (Nat.le_refl _) (by have := HLen.out; omega) (by have := HLen.out; omega) ?_)
        intro wm hzm hgm hsm
        have HPM : Hid (PairV w wm g h s s w2.heap.size) := hid (HPW.out.avoid ((Below.refl _ _).grown hgm (Nat.le_refl _) (fun k hk => by cases hk)) hsm)
        have HBM : Hid (Blk wm w2.heap.size 4 (fl s.W.length 0)) := hid (by rw [fl_zero]; exact hzm.out)
        clear hzm hgm hsm HPW
        generalize w2.heap.size = v at *
        go_wp2_with fail
        go_loopw [104] (fun iv wq => ∃ j : Nat, iv = .int .i64 (j : Int) ∧ Hid (j ≤ s.W.length) ∧ Hid (PairV w wq g h s s v) ∧ Hid (Blk wq v 4 (fl s.W.length j))) (fun iv _ => s.W.length - (intOf iv).toNat)
        case atStart => exact ⟨0, rfl, hid (Nat.zero_le _), HPM, HBM⟩
        case round =>
          obtain ⟨j, rfl, hj, hP, hB⟩ := hrel
          clear HPM HBM
          rcases Nat.lt_or_ge j s.W.length with hlt | hge
          · have j1 : (0 : Int) ≤ (j : Int) := by omega
            have j2 : (j : Int) < (s.W.length : Int) := by omega
            have j3 : decide ((j : Int) < (s.W.length : Int)) = true := by simpa using hlt
            have j4 : decide (j < s.W.length) = true := by simpa using hlt
            have wj : wrap64 ((j : Int) + 1) = ((j + 1 : Nat) : Int) := by have := HLen.out; unfold wrap64; omega
            have fz := hB.out.frozen j
            have yc := hB.out.cell j
            have yc2 : (fl s.W.length j)[j]? = some (.bool false) := by unfold fl; simp [hlt]
            rw [yc2] at yc
            have HP4 := hid (hP.out.set j (.bool true))
            have HB4 : Hid (Blk (wr.setCell ⟨v, j, none⟩ (.bool true)) v 4 (fl s.W.length (j + 1))) := hid (by
              have := hB.out.store j (.bool true)
              rw [fl_set] at this
              exact this)
            clear hP hB yc2
            go_wp2
            exact ⟨⟨j + 1, congrArg (Value.int .i64) wj, hid hlt, HP4, HB4⟩, by rw [wj]; simp [intOf]; omega⟩
          · have j3 : decide ((j : Int) < (s.W.length : Int)) = false := by simp; omega
            have j4 : decide (j < s.W.length) = false := by simp; omega
            have HJ : Hid (j = s.W.length) := hid (by have := hj.out; omega)
            have HB' : Hid (Blk wr v 4 (fl s.W.length s.W.length)) := hid (by have := hB.out; rwa [HJ.out] at this)
            clear hB hj hge HJ
            as_aux_lemma =>
            go_wp2_with fail
            obtain ⟨Fa, hda, hFa, hva, hna⟩ := hP.out.one
            refine (crash_c wr Fa g s hda _ s.W.length _ (List.replicate s.W.length true) ⟨by simp, fun h0 => ⟨v, 0, rfl, Nat.zero_le _, HB'.out.lt, fun t u hu => ?_⟩⟩ (fun _ u hu => by injection hu with hu; subst hu; exact hva) HLen.out).mono ?_
            · rw [HB'.out.cell, Nat.zero_add, ← Array.getElem?_toList, fl_full]
              exact hu
            rintro e w8 ⟨rfl, hL⟩
            rw [HCR.out] at hL
            have HP8 := hid (hna _ _ hL).1
            clear hda hFa hva hna hL hP HB'
            go_wp2_with fail
            obtain ⟨Fa, hda, hFa, hva, hna⟩ := HP8.out.two
            refine (sync_c w8 Fa h s hda (by rw [HLM.out]; simp) HLen.out).mono ?_
            rintro e w9 ⟨rfl, hL⟩
            have HP9 := hid (hna _ _ hL).1.pair
            have H9' : Hid (s.sync.dec.n = 9) := H9
            have HL' : Hid (s.sync.dec.lim ≠ some 0) := hid (by show s.lim.map _ ≠ _; rw [HLM.out]; simp)
            have HW' : Hid (s.sync.dec.W.length = 0) := hid rfl
            generalize s.sync.dec = s9 at *
            clear hda hFa hva hna hL HP8 HLen HCR HLM H9
            go_wp2_with fail
            go_loopw [116] (fun iv wq => ∃ j : Nat, iv = .int .i64 (j : Int) ∧ Hid (j ≤ 9) ∧ Hid (Pair w wq g h s9 s9)) (fun iv _ => 9 - (intOf iv).toNat)
            case atStart => exact ⟨0, rfl, hid (by decide), HP9⟩
            case round =>
              obtain ⟨j, rfl, hj, hP⟩ := hrel
              clear HP9
              rcases Nat.lt_or_ge j 9 with hlt | hge
              · have j3 : decide ((j : Int) < 9) = true := by simp; omega
                have j4 : decide (j < 9) = true := by simpa using hlt
                as_aux_lemma =>
                go_wp2_with fail
                obtain ⟨Fa, hda, -, -⟩ := hP.out.one
                refine (read_c wr Fa g s9 hda j (by rw [H9'.out]; exact hlt) HL'.out).mono ?_
                rintro e wa ⟨Aa, ca, rfl, hoa, hba⟩
                have HPa := hid (hP.out.bel hba)
                have CA := hid (Bts.own (l := app s9.W s9.K j) hoa)
                clear hda hoa hba hP
                go_wp2_with fail
                obtain ⟨Fa, hda, -, -⟩ := HPa.out.two
                refine (read_c wa Fa h s9 hda j (by rw [H9'.out]; exact hlt) HL'.out).mono ?_
                rintro e wb ⟨Ab, cb, rfl, hob, hbb⟩
                have HPb := hid (HPa.out.bel hbb)
                have q1 := run_conv (c := ca) (CA.out.below hbb (Nat.le_refl _))
                have q2 := run_conv (c := cb) (Bts.own (l := app s9.W s9.K j) hob)
                generalize str (app s9.W s9.K j) = T at *
                clear hda hob hbb HPa CA
                go_wp2
                exact ⟨⟨j + 1, congrArg (Value.int .i64) (by omega : (j : Int) + 1 = ((j + 1 : Nat) : Int)), hid hlt, HPb⟩, by simp [intOf]; omega⟩
              · have j3 : decide ((j : Int) < 9) = false := by simp; omega
                have j4 : decide (j < 9) = false := by simp; omega
                as_aux_lemma =>
                go_wp2_with fail
                obtain ⟨Fa, hda, -, -⟩ := hP.out.one
                refine (waiting_c wr Fa g s9 hda).mono ?_
                rw [HW'.out]
                rintro e wa ⟨rfl, rfl⟩
                clear hda
                go_wp2_with fail
                obtain ⟨Fa, hda, -, -⟩ := hP.out.two
                refine (waiting_c wr Fa h s9 hda).mono ?_
                rw [HW'.out]
                rintro e wa ⟨rfl, rfl⟩
                clear hda
                go_wp2
                go_ret
                exact ⟨rfl, hP.out.below⟩
      · have k1 : decide ((60 : Int) ≤ (j : Int)) = false := by have := hj60.out; simp; omega
        by_cases h16 : 16 < o.Bn
        · have k2 : decide ((16 : Int) < (o.Bn : Int)) = true := by simp; omega
          have HPX := hid HP2.out.pair
          clear HP2 HBO HOK HO HV hP x0 x1
          have HLen : Hid (s.W.length ≤ 1000000) := hid (by have := hA.out.len; have := hj60.out; omega)
          have HPW : Hid (Pair w w2 g h s s) := HPX
          have HCR : Hid (s.crash (List.replicate s.W.length true) = s.sync.dec) := hid (by
            have hk : ke s.W (List.replicate s.W.length true) = s.W := ke_all _ _ s.W rfl (fun j hj => by simp [hj])
            show St.mk s.n (app (ke s.W (List.replicate s.W.length true)) s.K) [] none = St.mk s.n (app s.W s.K) [] (s.lim.map _)
            rw [hk, hA.out.lim]
            rfl)
          have H9 := hid hA.out.n9
          have HLM := hid hA.out.lim
          clear hA
          as_aux_lemma =>
          go_wp2_with (at_make; refine wpList_make_new _ rfl _ _ 32 rfl 4 (.bool false) 1 Try.underlying32 (by kernel_rfl) rfl (s.W.length : Int) (s.W.length : Int) s.W.length s.W.length rfl rfl rfl rfl (Nat.le_refl _) (by have := HLen.out; omega) (by have := HLen.out; omega) ?_)
          intro wm hzm hgm hsm
          have HPM : Hid (PairV w wm g h s s w2.heap.size) := hid (HPW.out.avoid ((Below.refl _ _).grown hgm (Nat.le_refl _) (fun k hk => by cases hk)) hsm)
          have HBM : Hid (Blk wm w2.heap.size 4 (fl s.W.length 0)) := hid (by rw [fl_zero]; exact hzm.out)
          clear hzm hgm hsm HPW
          generalize w2.heap.size = v at *
          go_wp2_with fail
          go_loopw [104] (fun iv wq => ∃ j : Nat, iv = .int .i64 (j : Int) ∧ Hid (j ≤ s.W.length) ∧ Hid (PairV w wq g h s s v) ∧ Hid (Blk wq v 4 (fl s.W.length j))) (fun iv _ => s.W.length - (intOf iv).toNat)
          case atStart => exact ⟨0, rfl, hid (Nat.zero_le _), HPM, HBM⟩
          case round =>
            obtain ⟨j, rfl, hj, hP, hB⟩ := hrel
            clear HPM HBM
            rcases Nat.lt_or_ge j s.W.length with hlt | hge
            · have j1 : (0 : Int) ≤ (j : Int) := by omega
              have j2 : (j : Int) < (s.W.length : Int) := by omega
              have j3 : decide ((j : Int) < (s.W.length : Int)) = true := by simpa using hlt
              have j4 : decide (j < s.W.length) = true := by simpa using hlt
              have wj : wrap64 ((j : Int) + 1) = ((j + 1 : Nat) : Int) := by have := HLen.out; unfold wrap64; omega
              have fz := hB.out.frozen j
              have yc := hB.out.cell j
              have yc2 : (fl s.W.length j)[j]? = some (.bool false) := by unfold fl; simp [hlt]
              rw [yc2] at yc
              have HP4 := hid (hP.out.set j (.bool true))
              have HB4 : Hid (Blk (wr.setCell ⟨v, j, none⟩ (.bool true)) v 4 (fl s.W.length (j + 1))) := hid (by
                have := hB.out.store j (.bool true)
                rw [fl_set] at this
                exact this)
              clear hP hB yc2
              go_wp2
              exact ⟨⟨j + 1, congrArg (Value.int .i64) wj, hid hlt, HP4, HB4⟩, by rw [wj]; simp [intOf]; omega⟩
            · have j3 : decide ((j : Int) < (s.W.length : Int)) = false := by simp; omega
              have j4 : decide (j < s.W.length) = false := by simp; omega
              have HJ : Hid (j = s.W.length) := hid (by have := hj.out; omega)
              have HB' : Hid (Blk wr v 4 (fl s.W.length s.W.length)) := hid (by have := hB.out; rwa [HJ.out] at this)
              clear hB hj hge HJ
              as_aux_lemma =>
              go_wp2_with fail
              obtain ⟨Fa, hda, hFa, hva, hna⟩ := hP.out.one
              refine (crash_c wr Fa g s hda _ s.W.length _ (List.replicate s.W.length true) ⟨by simp, fun h0 => ⟨v, 0, rfl, Nat.zero_le _, HB'.out.lt, fun t u hu => ?_⟩⟩ (fun _ u hu => by injection hu with hu; subst hu; exact hva) HLen.out).mono ?_
              · rw [HB'.out.cell, Nat.zero_add, ← Array.getElem?_toList, fl_full]
                exact hu
              rintro e w8 ⟨rfl, hL⟩
              rw [HCR.out] at hL
              have HP8 := hid (hna _ _ hL).1
              clear hda hFa hva hna hL hP HB'
              go_wp2_with fail
              obtain ⟨Fa, hda, hFa, hva, hna⟩ := HP8.out.two
              refine (sync_c w8 Fa h s hda (by rw [HLM.out]; simp) HLen.out).mono ?_
              rintro e w9 ⟨rfl, hL⟩
              have HP9 := hid (hna _ _ hL).1.pair
              have H9' : Hid (s.sync.dec.n = 9) := H9
              have HL' : Hid (s.sync.dec.lim ≠ some 0) := hid (by show s.lim.map _ ≠ _; rw [HLM.out]; simp)
              have HW' : Hid (s.sync.dec.W.length = 0) := hid rfl
              generalize s.sync.dec = s9 at *
              clear hda hFa hva hna hL HP8 HLen HCR HLM H9
              go_wp2_with fail
              go_loopw [116] (fun iv wq => ∃ j : Nat, iv = .int .i64 (j : Int) ∧ Hid (j ≤ 9) ∧ Hid (Pair w wq g h s9 s9)) (fun iv _ => 9 - (intOf iv).toNat)
              case atStart => exact ⟨0, rfl, hid (by decide), HP9⟩
              case round =>
                obtain ⟨j, rfl, hj, hP⟩ := hrel
                clear HP9
                rcases Nat.lt_or_ge j 9 with hlt | hge
                · have j3 : decide ((j : Int) < 9) = true := by simp; omega
                  have j4 : decide (j < 9) = true := by simpa using hlt
                  as_aux_lemma =>
                  go_wp2_with fail
                  obtain ⟨Fa, hda, -, -⟩ := hP.out.one
                  refine (read_c wr Fa g s9 hda j (by rw [H9'.out]; exact hlt) HL'.out).mono ?_
                  rintro e wa ⟨Aa, ca, rfl, hoa, hba⟩
                  have HPa := hid (hP.out.bel hba)
                  have CA := hid (Bts.own (l := app s9.W s9.K j) hoa)
                  clear hda hoa hba hP
                  go_wp2_with fail
                  obtain ⟨Fa, hda, -, -⟩ := HPa.out.two
                  refine (read_c wa Fa h s9 hda j (by rw [H9'.out]; exact hlt) HL'.out).mono ?_
                  rintro e wb ⟨Ab, cb, rfl, hob, hbb⟩
                  have HPb := hid (HPa.out.bel hbb)
                  have q1 := run_conv (c := ca) (CA.out.below hbb (Nat.le_refl _))
                  have q2 := run_conv (c := cb) (Bts.own (l := app s9.W s9.K j) hob)
                  generalize str (app s9.W s9.K j) = T at *
                  clear hda hob hbb HPa CA
                  go_wp2
                  exact ⟨⟨j + 1, congrArg (Value.int .i64) (by omega : (j : Int) + 1 = ((j + 1 : Nat) : Int)), hid hlt, HPb⟩, by simp [intOf]; omega⟩
                · have j3 : decide ((j : Int) < 9) = false := by simp; omega
                  have j4 : decide (j < 9) = false := by simp; omega
                  as_aux_lemma =>
                  go_wp2_with fail
                  obtain ⟨Fa, hda, -, -⟩ := hP.out.one
                  refine (waiting_c wr Fa g s9 hda).mono ?_
                  rw [HW'.out]
                  rintro e wa ⟨rfl, rfl⟩
                  clear hda
                  go_wp2_with fail
                  obtain ⟨Fa, hda, -, -⟩ := hP.out.two
                  refine (waiting_c wr Fa h s9 hda).mono ?_
                  rw [HW'.out]
                  rintro e wa ⟨rfl, rfl⟩
                  clear hda
                  go_wp2
                  go_ret
                  exact ⟨rfl, hP.out.below⟩
        · have k2 : decide ((16 : Int) < (o.Bn : Int)) = false := by simp; omega
          obtain ⟨ki, hki, hkw⟩ := kmod o.i 8 (by decide) (by decide)
          rw [show ((8 : Nat) : Int) = 8 from rfl] at hkw
          clear hP HV
          as_aux_lemma =>
          go_wp2_with fail
          · rw [hkw]
            obtain ⟨Fa, hda, hFa, hva, hna⟩ := HP2.out.one
            refine (write_c w2 Fa g s hda ki (by rw [hA.out.n9]; omega) o.BA o.Bn o.Bc o.l HBO.out (fun h0 u hu e => by have := HO.out.b.lt h0 u hu; have := hFa u e; omega) (by omega) (by rw [hA.out.lim]; simp) (by have := hA.out.len; have := hj60.out; omega)).mono ?_
            rintro e w4 ⟨rfl, hL⟩
            obtain ⟨hp4, ev4⟩ := hna _ _ hL
            have HP4 := hid hp4
            have y2 : w4.cell? ⟨wr.heap.size, 2, none⟩ = some (.slice o.BA o.Bn o.Bc) := (World.cell?_of_block ev4).trans x2
            have HBO4 : Hid (Bts w4 0 w4.heap.size o.BA o.Bn o.l) := hid ((HOK.out.b.below HP4.out.pair.below (Nat.le_refl _)).wide (Nat.le_refl _) HP4.out.pair.below.size)
            clear hda hFa hva hna hL hp4 ev4 x2 HP2 HBO
            go_wp2_with fail
            obtain ⟨Fa, hda, hFa, hva, hna⟩ := HP4.out.two
            refine (write_c w4 Fa h s hda ki (by rw [hA.out.n9]; omega) o.BA o.Bn o.Bc o.l HBO4.out (fun h0 u hu e => by have := HO.out.b.lt h0 u hu; have := hFa u e; omega) (by omega) (by rw [hA.out.lim]; simp) (by have := hA.out.len; have := hj60.out; omega)).mono ?_
            rintro e w5 ⟨rfl, hL⟩
            have HP6 := hid (hna _ _ hL).1.pair
            have HA6 := hid (hA.out.put hki o.l)
            have wl : wrap64 ((s.W.length : Int) + 1) = (((s.put ki o.l).dec.W.length : Nat) : Int) := by
              have : (s.put ki o.l).dec.W.length = s.W.length + 1 := by show (s.W ++ [_]).length = _; simp
              rw [this]
              have := hA.out.len
              have := hj60.out
              unfold wrap64
              omega
            generalize (s.put ki o.l).dec = s6 at *
            clear hda hFa hva hna hL HP4 HBO4 y2
            go_wp2_with fail
            obtain ⟨F8, hd8, -, -⟩ := HP6.out.one
            have HD8 := hid hd8
            clear hd8
            refine (read_c w5 F8 g s6 HD8.out 8 (by rw [HA6.out.n9]; decide) (by rw [HA6.out.lim]; simp)).mono ?_
            rintro e w7 ⟨A7, c7, rfl, ho7, hb7⟩
            rw [HA6.out.at8] at ho7
            have CV := hid (fun wx (hx : Below w7.heap.size w7 wx) => run_conv (c := c7) ((Bts.own (l := pad l) ho7).below hx (Nat.le_refl _)))
            have HP7 := hid (HP6.out.bel hb7)
            have BV := hid (fun wx (hx : Below w7.heap.size w7 wx) => run_conv (c := bc) (HBT.out.below (HP7.out.below.trans (hx.mono HP7.out.below.size)) (Nat.le_refl _)))
            have FU := hid (fun wx => full_c l wx HLL.out)
            have WA := hid (fun wx (hx : Below w7.heap.size w7 wx) => waiting_c wx F8 g s6 ((HD8.out.bel hb7).bel hx))
            clear ho7 hb7
            go_wp2_with fail
            refine wp_region_held_drew (S := fun wx => Below w7.heap.size w7 wx) (by kernel_rfl) ((Below.refl _ _).drew) (fun HS => ?_)
            refine wpAnyH_take (i := 0) (oi := ?oip0) (v := ?vp0) ?hip0 (by kernel_rfl) (by kernel_rfl) (by kernel_rfl) ?hQp0 ?hyp0 HS ?restp0
            case hip0 => simp only [List.getElem?_toArray, List.getElem?_cons_zero]; exact rfl
            case hQp0 => exact fun _ _ _ h => h
            case hyp0 =>
              refine Or.inl ⟨by rfl, ?_⟩
              intro wS hSw
              go_simp
              try with_reducible rfl
            try simp only [Act.put, List.setIfInBounds_toArray, List.set_cons_zero, List.set_cons_succ]
            refine wpAnyH_take (i := 1) (oi := ?oip1) (v := ?vp1) ?hip1 (by kernel_rfl) (by kernel_rfl) (by kernel_rfl) ?hQp1 ?hyp1 HS ?restp1
            case hip1 => simp only [List.getElem?_toArray, List.getElem?_cons_succ, List.getElem?_cons_zero]; exact rfl
            case hQp1 => exact fun _ _ _ h => h
            case hyp1 =>
              refine Or.inl ⟨by rfl, ?_⟩
              intro wS hSw
              go_simp
              try with_reducible rfl
            try simp only [Act.put, List.setIfInBounds_toArray, List.set_cons_zero, List.set_cons_succ]
            refine wpAnyH_take (i := 2) (oi := ?oip2) (v := ?vp2) ?hip2 (by kernel_rfl) (by kernel_rfl) (by kernel_rfl) ?hQp2 ?hyp2 HS ?restp2
            case hip2 => simp only [List.getElem?_toArray, List.getElem?_cons_succ, List.getElem?_cons_zero]; exact rfl
            case hQp2 => exact fun _ _ _ h => h
            case hyp2 =>
              refine Or.inl ⟨by rfl, ?_⟩
              intro wS hSw
              go_simp
              try with_reducible rfl
            try simp only [Act.put, List.setIfInBounds_toArray, List.set_cons_zero, List.set_cons_succ]
            refine wpAnyH_take (i := 3) (oi := ?oip3) (v := ?vp3) ?hip3 (by kernel_rfl) (by kernel_rfl) (by kernel_rfl) ?hQp3 ?hyp3 HS ?restp3
            case hip3 => simp only [List.getElem?_toArray, List.getElem?_cons_succ, List.getElem?_cons_zero]; exact rfl
            case hQp3 => exact fun _ _ _ h => h
            case hyp3 =>
              refine Or.inl ⟨by rfl, ?_⟩
              intro wS hSw
              go_simp
              try with_reducible rfl
            try simp only [Act.put, List.setIfInBounds_toArray, List.set_cons_zero, List.set_cons_succ]
            refine wpAnyH_take (i := 4) (oi := ?oip4) (v := ?vp4) ?hip4 (by kernel_rfl) (by kernel_rfl) (by kernel_rfl) ?hQp4 ?hyp4 HS ?restp4
            case hip4 => simp only [List.getElem?_toArray, List.getElem?_cons_succ, List.getElem?_cons_zero]; exact rfl
            case hQp4 => exact fun _ _ _ h => h
            case hyp4 =>
              refine Or.inl ⟨by rfl, ?_⟩
              intro wS hSw
              have hcv := CV.out wS hSw
              go_simp
              try with_reducible rfl
            try simp only [Act.put, List.setIfInBounds_toArray, List.set_cons_zero, List.set_cons_succ]
            refine wpAnyH_take (i := 5) (oi := ?oip5) (v := ?vp5) ?hip5 (by kernel_rfl) (by kernel_rfl) (by kernel_rfl) ?hQp5 ?hyp5 HS ?restp5
            case hip5 => simp only [List.getElem?_toArray, List.getElem?_cons_succ, List.getElem?_cons_zero]; exact rfl
            case hQp5 => exact fun _ _ _ h => h
            case hyp5 =>
              refine Or.inl ⟨by rfl, ?_⟩
              intro wS hSw
              go_simp
              try with_reducible rfl
            try simp only [Act.put, List.setIfInBounds_toArray, List.set_cons_zero, List.set_cons_succ]
            refine wpAnyH_take (i := 6) (oi := ?oip6) (v := ?vp6) ?hip6 (by kernel_rfl) (by kernel_rfl) (by kernel_rfl) ?hQp6 ?hyp6 HS ?restp6
            case hip6 => simp only [List.getElem?_toArray, List.getElem?_cons_succ, List.getElem?_cons_zero]; exact rfl
            case hQp6 => exact fun _ _ _ h => h
            case hyp6 =>
              refine Or.inl ⟨by rfl, ?_⟩
              intro wS hSw
              have hcv := BV.out wS hSw
              go_simp
              try with_reducible rfl
            try simp only [Act.put, List.setIfInBounds_toArray, List.set_cons_zero, List.set_cons_succ]
            refine wpAnyH_ready (rs := [7]) (by kernel_rfl) (by simp) ?_
            refine AllReadyH.cons (o := ?op7) ?hop7 (fun K hK => ?stepp7) AllReadyH.nil
            case hop7 => simp only [List.getElem?_toArray, List.getElem?_cons_succ, List.getElem?_cons_zero]; exact rfl
            go_simp
            refine (FU.out _).mono ?_
            rintro e wa ⟨rfl, rfl⟩
            refine hK.out _ _ HS (fun HS => ?_)
            clear hK K
            try simp only [Act.put, List.setIfInBounds_toArray, List.set_cons_zero, List.set_cons_succ]
            refine wpAnyH_take (i := 8) (oi := ?oip8) (v := ?vp8) ?hip8 (by kernel_rfl) (by kernel_rfl) (by kernel_rfl) ?hQp8 ?hyp8 HS ?restp8
            case hip8 => simp only [List.getElem?_toArray, List.getElem?_cons_succ, List.getElem?_cons_zero]; exact rfl
            case hQp8 => exact fun _ _ _ h => h
            case hyp8 =>
              refine Or.inl ⟨by rfl, ?_⟩
              intro wS hSw
              go_simp
              try with_reducible rfl
            try simp only [Act.put, List.setIfInBounds_toArray, List.set_cons_zero, List.set_cons_succ]
            refine wpAnyH_take (i := 9) (oi := ?oip9) (v := ?vp9) ?hip9 (by kernel_rfl) (by kernel_rfl) (by kernel_rfl) ?hQp9 ?hyp9 HS ?restp9
            case hip9 => simp only [List.getElem?_toArray, List.getElem?_cons_succ, List.getElem?_cons_zero]; exact rfl
            case hQp9 => exact fun _ _ _ h => h
            case hyp9 =>
              refine Or.inl ⟨by rfl, ?_⟩
              intro wS hSw
              go_simp
              try with_reducible rfl
            try simp only [Act.put, List.setIfInBounds_toArray, List.set_cons_zero, List.set_cons_succ]
            refine wpAnyH_take (i := 10) (oi := ?oip10) (v := ?vp10) ?hip10 (by kernel_rfl) (by kernel_rfl) (by kernel_rfl) ?hQp10 ?hyp10 HS ?restp10
            case hip10 => simp only [List.getElem?_toArray, List.getElem?_cons_succ, List.getElem?_cons_zero]; exact rfl
            case hQp10 => exact fun _ _ _ h => h
            case hyp10 =>
              refine Or.inl ⟨by rfl, ?_⟩
              intro wS hSw
              go_simp
              try with_reducible rfl
            try simp only [Act.put, List.setIfInBounds_toArray, List.set_cons_zero, List.set_cons_succ]
            refine wpAnyH_take (i := 11) (oi := ?oip11) (v := ?vp11) ?hip11 (by kernel_rfl) (by kernel_rfl) (by kernel_rfl) ?hQp11 ?hyp11 HS ?restp11
            case hip11 => simp only [List.getElem?_toArray, List.getElem?_cons_succ, List.getElem?_cons_zero]; exact rfl
            case hQp11 => exact fun _ _ _ h => h
            case hyp11 =>
              refine Or.inl ⟨by rfl, ?_⟩
              intro wS hSw
              go_simp
              try with_reducible rfl
            try simp only [Act.put, List.setIfInBounds_toArray, List.set_cons_zero, List.set_cons_succ]
            refine wpAnyH_take (i := 13) (oi := ?oip13) (v := ?vp13) ?hip13 (by kernel_rfl) (by kernel_rfl) (by kernel_rfl) ?hQp13 ?hyp13 HS ?restp13
            case hip13 => simp only [List.getElem?_toArray, List.getElem?_cons_succ, List.getElem?_cons_zero]; exact rfl
            case hQp13 => exact fun _ _ _ h => h
            case hyp13 =>
              refine Or.inl ⟨by rfl, ?_⟩
              intro wS hSw
              go_simp
              try with_reducible rfl
            try simp only [Act.put, List.setIfInBounds_toArray, List.set_cons_zero, List.set_cons_succ]
            refine wpAnyH_ready (rs := [12]) (by kernel_rfl) (by simp) ?_
            refine AllReadyH.cons (o := ?op12) ?hop12 (fun K hK => ?stepp12) AllReadyH.nil
            case hop12 => simp only [List.getElem?_toArray, List.getElem?_cons_succ, List.getElem?_cons_zero]; exact rfl
            go_simp
            refine (WA.out _ HS).mono ?_
            rintro e wc ⟨rfl, rfl⟩
            refine hK.out _ _ HS (fun HS => ?_)
            clear hK K
            try simp only [Act.put, List.setIfInBounds_toArray, List.set_cons_zero, List.set_cons_succ]
            refine wpAnyH_take (i := 14) (oi := ?oip14) (v := ?vp14) ?hip14 (by kernel_rfl) (by kernel_rfl) (by kernel_rfl) ?hQp14 ?hyp14 HS ?restp14
            case hip14 => simp only [List.getElem?_toArray, List.getElem?_cons_succ, List.getElem?_cons_zero]; exact rfl
            case hQp14 => exact fun _ _ _ h => h
            case hyp14 =>
              refine Or.inl ⟨by rfl, ?_⟩
              intro wS hSw
              go_simp
              try with_reducible rfl
            try simp only [Act.put, List.setIfInBounds_toArray, List.set_cons_zero, List.set_cons_succ]
            refine wpAnyH_take (i := 15) (oi := ?oip15) (v := ?vp15) ?hip15 (by kernel_rfl) (by kernel_rfl) (by kernel_rfl) ?hQp15 ?hyp15 HS ?restp15
            case hip15 => simp only [List.getElem?_toArray, List.getElem?_cons_succ, List.getElem?_cons_zero]; exact rfl
            case hQp15 => exact fun _ _ _ h => h
            case hyp15 =>
              refine Or.inl ⟨by rfl, ?_⟩
              intro wS hSw
              go_simp
              try with_reducible rfl
            try simp only [Act.put, List.setIfInBounds_toArray, List.set_cons_zero, List.set_cons_succ]
            refine wpAnyH_done (by kernel_rfl) ?_ _
            have HP9 := hid (HP7.out.bel HS)
            clear HS HP7 CV BV FU WA
            go_wp2
            exact ⟨⟨j + 1, s6, congrArg (Value.int .i64) wj, rfl, hid HLT.out, hid (by have := hj60.out; omega), HA6, HP9⟩, by rw [wj]; have := HLT.out; simp [intOf]; omega⟩
          · have HP6 := hid HP2.out.pair
            have HA6 := hid hA.out.next
            obtain ⟨F8, hd8, -, -⟩ := HP6.out.one
            have HD8 := hid hd8
            clear hd8 HP2 HBO x2
            refine (read_c w2 F8 g s HD8.out 8 (by rw [HA6.out.n9]; decide) (by rw [HA6.out.lim]; simp)).mono ?_
            rintro e w7 ⟨A7, c7, rfl, ho7, hb7⟩
            rw [HA6.out.at8] at ho7
            have CV := hid (fun wx (hx : Below w7.heap.size w7 wx) => run_conv (c := c7) ((Bts.own (l := pad l) ho7).below hx (Nat.le_refl _)))
            have HP7 := hid (HP6.out.bel hb7)
            have BV := hid (fun wx (hx : Below w7.heap.size w7 wx) => run_conv (c := bc) (HBT.out.below (HP7.out.below.trans (hx.mono HP7.out.below.size)) (Nat.le_refl _)))
            have FU := hid (fun wx => full_c l wx HLL.out)
            have WA := hid (fun wx (hx : Below w7.heap.size w7 wx) => waiting_c wx F8 g s ((HD8.out.bel hb7).bel hx))
            clear ho7 hb7
            go_wp2_with fail
            refine wp_region_held_drew (S := fun wx => Below w7.heap.size w7 wx) (by kernel_rfl) ((Below.refl _ _).drew) (fun HS => ?_)
            refine wpAnyH_take (i := 0) (oi := ?oiq0) (v := ?vq0) ?hiq0 (by kernel_rfl) (by kernel_rfl) (by kernel_rfl) ?hQq0 ?hyq0 HS ?restq0
            case hiq0 => simp only [List.getElem?_toArray, List.getElem?_cons_zero]; exact rfl
            case hQq0 => exact fun _ _ _ h => h
            case hyq0 =>
              refine Or.inl ⟨by rfl, ?_⟩
              intro wS hSw
              go_simp
              try with_reducible rfl
            try simp only [Act.put, List.setIfInBounds_toArray, List.set_cons_zero, List.set_cons_succ]
            refine wpAnyH_take (i := 1) (oi := ?oiq1) (v := ?vq1) ?hiq1 (by kernel_rfl) (by kernel_rfl) (by kernel_rfl) ?hQq1 ?hyq1 HS ?restq1
            case hiq1 => simp only [List.getElem?_toArray, List.getElem?_cons_succ, List.getElem?_cons_zero]; exact rfl
            case hQq1 => exact fun _ _ _ h => h
            case hyq1 =>
              refine Or.inl ⟨by rfl, ?_⟩
              intro wS hSw
              go_simp
              try with_reducible rfl
            try simp only [Act.put, List.setIfInBounds_toArray, List.set_cons_zero, List.set_cons_succ]
            refine wpAnyH_take (i := 2) (oi := ?oiq2) (v := ?vq2) ?hiq2 (by kernel_rfl) (by kernel_rfl) (by kernel_rfl) ?hQq2 ?hyq2 HS ?restq2
            case hiq2 => simp only [List.getElem?_toArray, List.getElem?_cons_succ, List.getElem?_cons_zero]; exact rfl
            case hQq2 => exact fun _ _ _ h => h
            case hyq2 =>
              refine Or.inl ⟨by rfl, ?_⟩
              intro wS hSw
              go_simp
              try with_reducible rfl
            try simp only [Act.put, List.setIfInBounds_toArray, List.set_cons_zero, List.set_cons_succ]
            refine wpAnyH_take (i := 3) (oi := ?oiq3) (v := ?vq3) ?hiq3 (by kernel_rfl) (by kernel_rfl) (by kernel_rfl) ?hQq3 ?hyq3 HS ?restq3
            case hiq3 => simp only [List.getElem?_toArray, List.getElem?_cons_succ, List.getElem?_cons_zero]; exact rfl
            case hQq3 => exact fun _ _ _ h => h
            case hyq3 =>
              refine Or.inl ⟨by rfl, ?_⟩
              intro wS hSw
              go_simp
              try with_reducible rfl
            try simp only [Act.put, List.setIfInBounds_toArray, List.set_cons_zero, List.set_cons_succ]
            refine wpAnyH_take (i := 4) (oi := ?oiq4) (v := ?vq4) ?hiq4 (by kernel_rfl) (by kernel_rfl) (by kernel_rfl) ?hQq4 ?hyq4 HS ?restq4
            case hiq4 => simp only [List.getElem?_toArray, List.getElem?_cons_succ, List.getElem?_cons_zero]; exact rfl
            case hQq4 => exact fun _ _ _ h => h
            case hyq4 =>
              refine Or.inl ⟨by rfl, ?_⟩
              intro wS hSw
              have hcv := CV.out wS hSw
              go_simp
              try with_reducible rfl
            try simp only [Act.put, List.setIfInBounds_toArray, List.set_cons_zero, List.set_cons_succ]
            refine wpAnyH_take (i := 5) (oi := ?oiq5) (v := ?vq5) ?hiq5 (by kernel_rfl) (by kernel_rfl) (by kernel_rfl) ?hQq5 ?hyq5 HS ?restq5
            case hiq5 => simp only [List.getElem?_toArray, List.getElem?_cons_succ, List.getElem?_cons_zero]; exact rfl
            case hQq5 => exact fun _ _ _ h => h
            case hyq5 =>
              refine Or.inl ⟨by rfl, ?_⟩
              intro wS hSw
              go_simp
              try with_reducible rfl
            try simp only [Act.put, List.setIfInBounds_toArray, List.set_cons_zero, List.set_cons_succ]
            refine wpAnyH_take (i := 6) (oi := ?oiq6) (v := ?vq6) ?hiq6 (by kernel_rfl) (by kernel_rfl) (by kernel_rfl) ?hQq6 ?hyq6 HS ?restq6
            case hiq6 => simp only [List.getElem?_toArray, List.getElem?_cons_succ, List.getElem?_cons_zero]; exact rfl
            case hQq6 => exact fun _ _ _ h => h
            case hyq6 =>
              refine Or.inl ⟨by rfl, ?_⟩
              intro wS hSw
              have hcv := BV.out wS hSw
              go_simp
              try with_reducible rfl
            try simp only [Act.put, List.setIfInBounds_toArray, List.set_cons_zero, List.set_cons_succ]
            refine wpAnyH_ready (rs := [7]) (by kernel_rfl) (by simp) ?_
            refine AllReadyH.cons (o := ?oq7) ?hoq7 (fun K hK => ?stepq7) AllReadyH.nil
            case hoq7 => simp only [List.getElem?_toArray, List.getElem?_cons_succ, List.getElem?_cons_zero]; exact rfl
            go_simp
            refine (FU.out _).mono ?_
            rintro e wa ⟨rfl, rfl⟩
            refine hK.out _ _ HS (fun HS => ?_)
            clear hK K
            try simp only [Act.put, List.setIfInBounds_toArray, List.set_cons_zero, List.set_cons_succ]
            refine wpAnyH_take (i := 8) (oi := ?oiq8) (v := ?vq8) ?hiq8 (by kernel_rfl) (by kernel_rfl) (by kernel_rfl) ?hQq8 ?hyq8 HS ?restq8
            case hiq8 => simp only [List.getElem?_toArray, List.getElem?_cons_succ, List.getElem?_cons_zero]; exact rfl
            case hQq8 => exact fun _ _ _ h => h
            case hyq8 =>
              refine Or.inl ⟨by rfl, ?_⟩
              intro wS hSw
              go_simp
              try with_reducible rfl
            try simp only [Act.put, List.setIfInBounds_toArray, List.set_cons_zero, List.set_cons_succ]
            refine wpAnyH_take (i := 9) (oi := ?oiq9) (v := ?vq9) ?hiq9 (by kernel_rfl) (by kernel_rfl) (by kernel_rfl) ?hQq9 ?hyq9 HS ?restq9
            case hiq9 => simp only [List.getElem?_toArray, List.getElem?_cons_succ, List.getElem?_cons_zero]; exact rfl
            case hQq9 => exact fun _ _ _ h => h
            case hyq9 =>
              refine Or.inl ⟨by rfl, ?_⟩
              intro wS hSw
              go_simp
              try with_reducible rfl
            try simp only [Act.put, List.setIfInBounds_toArray, List.set_cons_zero, List.set_cons_succ]
            refine wpAnyH_take (i := 10) (oi := ?oiq10) (v := ?vq10) ?hiq10 (by kernel_rfl) (by kernel_rfl) (by kernel_rfl) ?hQq10 ?hyq10 HS ?restq10
            case hiq10 => simp only [List.getElem?_toArray, List.getElem?_cons_succ, List.getElem?_cons_zero]; exact rfl
            case hQq10 => exact fun _ _ _ h => h
            case hyq10 =>
              refine Or.inl ⟨by rfl, ?_⟩
              intro wS hSw
              go_simp
              try with_reducible rfl
            try simp only [Act.put, List.setIfInBounds_toArray, List.set_cons_zero, List.set_cons_succ]
            refine wpAnyH_take (i := 11) (oi := ?oiq11) (v := ?vq11) ?hiq11 (by kernel_rfl) (by kernel_rfl) (by kernel_rfl) ?hQq11 ?hyq11 HS ?restq11
            case hiq11 => simp only [List.getElem?_toArray, List.getElem?_cons_succ, List.getElem?_cons_zero]; exact rfl
            case hQq11 => exact fun _ _ _ h => h
            case hyq11 =>
              refine Or.inl ⟨by rfl, ?_⟩
              intro wS hSw
              go_simp
              try with_reducible rfl
            try simp only [Act.put, List.setIfInBounds_toArray, List.set_cons_zero, List.set_cons_succ]
            refine wpAnyH_take (i := 13) (oi := ?oiq13) (v := ?vq13) ?hiq13 (by kernel_rfl) (by kernel_rfl) (by kernel_rfl) ?hQq13 ?hyq13 HS ?restq13
            case hiq13 => simp only [List.getElem?_toArray, List.getElem?_cons_succ, List.getElem?_cons_zero]; exact rfl
            case hQq13 => exact fun _ _ _ h => h
            case hyq13 =>
              refine Or.inl ⟨by rfl, ?_⟩
              intro wS hSw
              go_simp
              try with_reducible rfl
            try simp only [Act.put, List.setIfInBounds_toArray, List.set_cons_zero, List.set_cons_succ]
            refine wpAnyH_ready (rs := [12]) (by kernel_rfl) (by simp) ?_
            refine AllReadyH.cons (o := ?oq12) ?hoq12 (fun K hK => ?stepq12) AllReadyH.nil
            case hoq12 => simp only [List.getElem?_toArray, List.getElem?_cons_succ, List.getElem?_cons_zero]; exact rfl
            go_simp
            refine (WA.out _ HS).mono ?_
            rintro e wc ⟨rfl, rfl⟩
            refine hK.out _ _ HS (fun HS => ?_)
            clear hK K
            try simp only [Act.put, List.setIfInBounds_toArray, List.set_cons_zero, List.set_cons_succ]
            refine wpAnyH_take (i := 14) (oi := ?oiq14) (v := ?vq14) ?hiq14 (by kernel_rfl) (by kernel_rfl) (by kernel_rfl) ?hQq14 ?hyq14 HS ?restq14
            case hiq14 => simp only [List.getElem?_toArray, List.getElem?_cons_succ, List.getElem?_cons_zero]; exact rfl
            case hQq14 => exact fun _ _ _ h => h
            case hyq14 =>
              refine Or.inl ⟨by rfl, ?_⟩
              intro wS hSw
              go_simp
              try with_reducible rfl
            try simp only [Act.put, List.setIfInBounds_toArray, List.set_cons_zero, List.set_cons_succ]
            refine wpAnyH_take (i := 15) (oi := ?oiq15) (v := ?vq15) ?hiq15 (by kernel_rfl) (by kernel_rfl) (by kernel_rfl) ?hQq15 ?hyq15 HS ?restq15
            case hiq15 => simp only [List.getElem?_toArray, List.getElem?_cons_succ, List.getElem?_cons_zero]; exact rfl
            case hQq15 => exact fun _ _ _ h => h
            case hyq15 =>
              refine Or.inl ⟨by rfl, ?_⟩
              intro wS hSw
              go_simp
              try with_reducible rfl
            try simp only [Act.put, List.setIfInBounds_toArray, List.set_cons_zero, List.set_cons_succ]
            refine wpAnyH_done (by kernel_rfl) ?_ _
            have HP9 := hid (HP7.out.bel HS)
            clear HS HP7 CV BV FU WA
            go_wp2
            exact ⟨⟨j + 1, s, congrArg (Value.int .i64) wj, rfl, hid HLT.out, hid (by have := hj60.out; omega), HA6, HP9⟩, by rw [wj]; have := HLT.out; simp [intOf]; omega⟩
    · have j3 : decide ((j : Int) < (n : Int)) = false := by simp; omega
      have j4 : decide (j < n) = false := by simp; omega
      have HPX := hP
      clear hP hj hge
      have HLen : Hid (s.W.length ≤ 1000000) := hid (by have := hA.out.len; have := hj60.out; omega)
      have HPW : Hid (Pair w wr g h s s) := HPX
      have HCR : Hid (s.crash (List.replicate s.W.length true) = s.sync.dec) := hid (by
        have hk : ke s.W (List.replicate s.W.length true) = s.W := ke_all _ _ s.W rfl (fun j hj => by simp [hj])
        show St.mk s.n (app (ke s.W (List.replicate s.W.length true)) s.K) [] none = St.mk s.n (app s.W s.K) [] (s.lim.map _)
        rw [hk, hA.out.lim]
        rfl)
      have H9 := hid hA.out.n9
      have HLM := hid hA.out.lim
      clear hA
      as_aux_lemma =>
      go_wp2_with (at_make; refine wpList_make_new _ rfl _ _ 32 rfl 4 (.bool false) 1 Try.underlying32 (by kernel_rfl) rfl (s.W.length : Int) (s.W.length : Int) s.W.length s.W.length rfl rfl rfl rfl (Nat.le_refl _) (by have := HLen.out; omega) (by have := HLen.out; omega) ?_)
      intro wm hzm hgm hsm
      have HPM : Hid (PairV w wm g h s s wr.heap.size) := hid (HPW.out.avoid ((Below.refl _ _).grown hgm (Nat.le_refl _) (fun k hk => by cases hk)) hsm)
      have HBM : Hid (Blk wm wr.heap.size 4 (fl s.W.length 0)) := hid (by rw [fl_zero]; exact hzm.out)
      clear hzm hgm hsm HPW
      generalize wr.heap.size = v at *
      go_wp2_with fail
      go_loopw [104] (fun iv wq => ∃ j : Nat, iv = .int .i64 (j : Int) ∧ Hid (j ≤ s.W.length) ∧ Hid (PairV w wq g h s s v) ∧ Hid (Blk wq v 4 (fl s.W.length j))) (fun iv _ => s.W.length - (intOf iv).toNat)
      case atStart => exact ⟨0, rfl, hid (Nat.zero_le _), HPM, HBM⟩
      case round =>
        obtain ⟨j, rfl, hj, hP, hB⟩ := hrel
        clear HPM HBM
        rcases Nat.lt_or_ge j s.W.length with hlt | hge
        · have j1 : (0 : Int) ≤ (j : Int) := by omega
          have j2 : (j : Int) < (s.W.length : Int) := by omega
          have j3 : decide ((j : Int) < (s.W.length : Int)) = true := by simpa using hlt
          have j4 : decide (j < s.W.length) = true := by simpa using hlt
          have wj : wrap64 ((j : Int) + 1) = ((j + 1 : Nat) : Int) := by have := HLen.out; unfold wrap64; omega
          have fz := hB.out.frozen j
          have yc := hB.out.cell j
          have yc2 : (fl s.W.length j)[j]? = some (.bool false) := by unfold fl; simp [hlt]
          rw [yc2] at yc
          have HP4 := hid (hP.out.set j (.bool true))
          have HB4 : Hid (Blk (wr.setCell ⟨v, j, none⟩ (.bool true)) v 4 (fl s.W.length (j + 1))) := hid (by
            have := hB.out.store j (.bool true)
            rw [fl_set] at this
            exact this)
          clear hP hB yc2
          go_wp2
          exact ⟨⟨j + 1, congrArg (Value.int .i64) wj, hid hlt, HP4, HB4⟩, by rw [wj]; simp [intOf]; omega⟩
        · have j3 : decide ((j : Int) < (s.W.length : Int)) = false := by simp; omega
          have j4 : decide (j < s.W.length) = false := by simp; omega
          have HJ : Hid (j = s.W.length) := hid (by have := hj.out; omega)
          have HB' : Hid (Blk wr v 4 (fl s.W.length s.W.length)) := hid (by have := hB.out; rwa [HJ.out] at this)
          clear hB hj hge HJ
          as_aux_lemma =>
          go_wp2_with fail
          obtain ⟨Fa, hda, hFa, hva, hna⟩ := hP.out.one
          refine (crash_c wr Fa g s hda _ s.W.length _ (List.replicate s.W.length true) ⟨by simp, fun h0 => ⟨v, 0, rfl, Nat.zero_le _, HB'.out.lt, fun t u hu => ?_⟩⟩ (fun _ u hu => by injection hu with hu; subst hu; exact hva) HLen.out).mono ?_
          · rw [HB'.out.cell, Nat.zero_add, ← Array.getElem?_toList, fl_full]
            exact hu
          rintro e w8 ⟨rfl, hL⟩
          rw [HCR.out] at hL
          have HP8 := hid (hna _ _ hL).1
          clear hda hFa hva hna hL hP HB'
          go_wp2_with fail
          obtain ⟨Fa, hda, hFa, hva, hna⟩ := HP8.out.two
          refine (sync_c w8 Fa h s hda (by rw [HLM.out]; simp) HLen.out).mono ?_
          rintro e w9 ⟨rfl, hL⟩
          have HP9 := hid (hna _ _ hL).1.pair
          have H9' : Hid (s.sync.dec.n = 9) := H9
          have HL' : Hid (s.sync.dec.lim ≠ some 0) := hid (by show s.lim.map _ ≠ _; rw [HLM.out]; simp)
          have HW' : Hid (s.sync.dec.W.length = 0) := hid rfl
          generalize s.sync.dec = s9 at *
          clear hda hFa hva hna hL HP8 HLen HCR HLM H9
          go_wp2_with fail
          go_loopw [116] (fun iv wq => ∃ j : Nat, iv = .int .i64 (j : Int) ∧ Hid (j ≤ 9) ∧ Hid (Pair w wq g h s9 s9)) (fun iv _ => 9 - (intOf iv).toNat)
          case atStart => exact ⟨0, rfl, hid (by decide), HP9⟩
          case round =>
            obtain ⟨j, rfl, hj, hP⟩ := hrel
            clear HP9
            rcases Nat.lt_or_ge j 9 with hlt | hge
            · have j3 : decide ((j : Int) < 9) = true := by simp; omega
              have j4 : decide (j < 9) = true := by simpa using hlt
              as_aux_lemma =>
              go_wp2_with fail
              obtain ⟨Fa, hda, -, -⟩ := hP.out.one
              refine (read_c wr Fa g s9 hda j (by rw [H9'.out]; exact hlt) HL'.out).mono ?_
              rintro e wa ⟨Aa, ca, rfl, hoa, hba⟩
              have HPa := hid (hP.out.bel hba)
              have CA := hid (Bts.own (l := app s9.W s9.K j) hoa)
              clear hda hoa hba hP
              go_wp2_with fail
              obtain ⟨Fa, hda, -, -⟩ := HPa.out.two
              refine (read_c wa Fa h s9 hda j (by rw [H9'.out]; exact hlt) HL'.out).mono ?_
              rintro e wb ⟨Ab, cb, rfl, hob, hbb⟩
              have HPb := hid (HPa.out.bel hbb)
              have q1 := run_conv (c := ca) (CA.out.below hbb (Nat.le_refl _))
              have q2 := run_conv (c := cb) (Bts.own (l := app s9.W s9.K j) hob)
              generalize str (app s9.W s9.K j) = T at *
              clear hda hob hbb HPa CA
              go_wp2
              exact ⟨⟨j + 1, congrArg (Value.int .i64) (by omega : (j : Int) + 1 = ((j + 1 : Nat) : Int)), hid hlt, HPb⟩, by simp [intOf]; omega⟩
            · have j3 : decide ((j : Int) < 9) = false := by simp; omega
              have j4 : decide (j < 9) = false := by simp; omega
              as_aux_lemma =>
              go_wp2_with fail
              obtain ⟨Fa, hda, -, -⟩ := hP.out.one
              refine (waiting_c wr Fa g s9 hda).mono ?_
              rw [HW'.out]
              rintro e wa ⟨rfl, rfl⟩
              clear hda
              go_wp2_with fail
              obtain ⟨Fa, hda, -, -⟩ := hP.out.two
              refine (waiting_c wr Fa h s9 hda).mono ?_
              rw [HW'.out]
              rintro e wa ⟨rfl, rfl⟩
              clear hda
              go_wp2
              go_ret
              exact ⟨rfl, hP.out.below⟩

theorem walkDeviceAlone (a0 : Option Addr) (n0 c0 : Nat) (z0 : List Int) (a1 : Option Addr) (n1 c1 : Nat) (w : World) (w0 : IsRow .u8 w a0 n0 c0 z0) (w1 : Ops w w.heap.size a1 n1 ∧ n1 ≤ 9223372036854775807) :
    Calls Try.prog 6 #[.slice a0 n0 c0, .slice a1 n1 c1] w fun e w' => e = .returned (.bool true) ∧ Below w.heap.size w w' := by
  obtain ⟨l, hb, _⟩ := argB w0
  rcases Nat.lt_or_ge 16 n0 with h | h
  · exact alone_long a0 n0 c0 _ w h
  · exact alone_core a0 n0 c0 l a1 n1 c1 w hb h w1.1 w1.2
end Go.Proofs.Ytdgcoipflenlgaa
