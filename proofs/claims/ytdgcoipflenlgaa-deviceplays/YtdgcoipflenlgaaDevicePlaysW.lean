/- The walk of DevicePlays: for every input the law answers true. -/
import Derived.Test.YtdgcoipflenlgaaDvAny
import Derived.Test.YtdgcoipflenlgaaDeviceKeepsW
namespace Go.Proofs.Ytdgcoipflenlgaa
open Go.RowKit

theorem Lst.lt2 {w : World} {lo hi n : Nat} {A : Option Addr} {xs : List Value} (h : Lst w lo hi A n xs) (hn : 0 < n) (u : Nat) (hu : A.map (·.block) = some u) : u < hi := by
  obtain ⟨b, off, rfl, _, h2, _⟩ := h.2 hn
  simp at hu
  omega
theorem kmodn (i : Int) : ∃ k : Nat, k < 12 ∧ wrap64 (1 + wrap64 ((IntKind.u64.wrap i).tmod 12)) = ((k + 1 : Nat) : Int) ∧ (wrap64 ((IntKind.u64.wrap i).tmod 12)) = (k : Int) := by
  obtain ⟨k, h1, h2⟩ := kmod i 12 (by decide) (by decide)
  rw [show ((12 : Nat) : Int) = 12 from rfl] at h2
  refine ⟨k, h1, ?_, h2⟩
  rw [h2]
  unfold wrap64
  omega

theorem inv_own {wr : World} {base : Nat} {A : Option Addr} {n c q : Nat} {zs : List UInt8} (ho : wr.ownsRow base 5 1 (.slice A n c) n (bs zs)) (hl : zs.length = n) (hq : q < n) :
    ∃ (ab : Nat) (bb : UInt8), A = some ⟨ab, 0, none⟩ ∧ base ≤ ab ∧ wr.cell? ⟨ab, q, none⟩ = some (.int .u8 (bb.toNat : Int)) ∧ wr.frozen? ⟨ab, q, none⟩ = false ∧ ∀ b' : UInt8, (wr.setCell ⟨ab, q, none⟩ (.int .u8 (b'.toNat : Int))).ownsRow base 5 1 (.slice (some ⟨ab, 0, none⟩) n c) n (bs (zs.set q b')) := by
  obtain ⟨ab, rfl, h1, h2, hfr⟩ := own_some ho (by omega)
  refine ⟨ab, zs[q]'(by omega), rfl, h1, ?_, hfr q, fun b' => ?_⟩
  · rw [ho.cellAt q (by omega)]
    exact bs_get zs q (by omega)
  · rw [← bs_set]
    exact own_store ho _

set_option maxRecDepth 20000 in
set_option maxHeartbeats 16000000 in
theorem plays_core (bl : Int) (A : Option Addr) (n c : Nat) (w : World) (hops : Ops w w.heap.size A n) (hn : n ≤ 9223372036854775807) :
    Calls Try.prog 3 #[.int .i64 bl, .slice A n c] w fun e w' => e = .returned (.bool true) ∧ Below w.heap.size w w' := by
  obtain ⟨k0, hk0, hkw, hkw2⟩ := kmodn bl
  have HK0 : Hid (k0 + 1 ≤ 12) := hid (by omega)
  have HK1 : Hid (1 ≤ k0 + 1) := hid (by omega)
  have HOPS := hid hops
  have HN := hid hn
  clear hops hn hk0
  generalize k0 + 1 = m at *
  rw [hkw2] at hkw
  go_enter Try.func3, Try.ntmps3
  go_wp2_with fail
  refine (first_c w).mono ?_
  rintro e w1 ⟨rfl, hb1⟩
  have HB1 := hid hb1
  clear hb1
  go_wp2_with fail
  try rw [hkw]
  refine (new_c m w1 HK1.out (by have := HK0.out; omega)).mono ?_
  rintro e w2 ⟨g, F2, rfl, hd2, hb2, hF2⟩
  have HD2 := hid hd2
  have HB2 := hid hb2
  have HF2 := hid hF2
  clear hd2 hb2 hF2
  go_wp2_with fail
  refine (rnew_c m w2 HK1.out (by have := HK0.out; omega)).mono ?_
  rintro e w3 ⟨ge, G3, rfl, hd3, hb3, hG3⟩
  have HT3 : Hid (Twin w w3 g ge (St.new m) (St.new m) (fun _ => False)) := hid ⟨F2, G3, HD2.out.bel hb3, hd3, fun j h1 h2 => (by have := HD2.out.lt j h1; have := hG3 j h2; omega), fun j hj => (by have := HF2.out j hj; have := HB1.out.size; omega), fun j hj => (by have := hG3 j hj; have := HB1.out.size; have := HB2.out.size; omega), (HB1.out.trans (HB2.out.mono HB1.out.size)).trans (hb3.mono (Nat.le_trans HB1.out.size HB2.out.size)), fun x hx => hx.elim⟩
  clear hd3 hb3 hG3 HD2 HB2 HF2 HB1 hkw hkw2
  go_wp2_with fail
  go_loopg [40] n (fun k iv wr => ∃ (j : Nat) (s : St), iv = .int .i64 (j : Int) ∧ Hid (k = n - j) ∧ Hid (j ≤ n) ∧ Hid (j ≤ 100) ∧ Hid (s.n = m) ∧ Hid (s.W.length ≤ j) ∧ Hid (Twin w wr g ge s s (fun _ => False)))
  case atStart => exact ⟨0, St.new m, rfl, hid (by omega), hid (Nat.zero_le _), hid (by decide), hid rfl, hid (Nat.le_refl _), HT3⟩
  case round =>
    obtain ⟨j, s, rfl, hgk, hj, hj100, hsn, hsW, hT⟩ := hrel
    clear HT3
    have HBK : Hid (∀ wx X, Twin w wx g ge s s X → Calls Try.prog 26 #[.pointer (some ⟨g, 0, none⟩)] wx fun e w' => e = .returned (.int .i64 (m : Int)) ∧ wx = w') := hid (fun wx X hx => by
      obtain ⟨F, hd, _⟩ := hx.one
      have := blocks_c wx F g s hd
      rwa [hsn.out] at this)
    rcases Nat.lt_or_ge j n with hlt | hge
    · have HLT := hid hlt
      obtain ⟨b, off, o, rfl, hbl, hR0, hO0⟩ := HOPS.out j hlt
      have HO := hid hO0
      have HR := hid (rangeAt_keep hR0 (hT.out.below.block b hbl))
      obtain ⟨d, hd1, hd2⟩ := Try.undO
      have HD := hid (And.intro hd1 hd2)
      have HIN : Hid ((Try.prog.info? 34).map (·.size) = some o.cells.length) := hid Try.infoO
      have HT : Hid ((wr.alloc (.cells #[.int .i64 0, .int .i64 0, .slice none 0 0, .slice none 0 0] 34)).there wr.heap.size 0 o.cells.toArray.size) := hid (z4 wr)
      have HC := hid (ocells o)
      have HV : Hid (VarO wr ((wr.alloc (.cells #[.int .i64 0, .int .i64 0, .slice none 0 0, .slice none 0 0] 34)).setCells wr.heap.size 0 o.cells) o) := hid (VarO.of wr o)
      have j1 : (0 : Int) ≤ (j : Int) := by omega
      have j2 : (j : Int) < (n : Int) := by omega
      have j3 : decide ((j : Int) < (n : Int)) = true := by simpa using hlt
      have j4 : decide (j < n) = true := by simpa using hlt
      have wj : wrap64 ((j : Int) + 1) = ((j + 1 : Nat) : Int) := by have := HN.out; unfold wrap64; omega
      clear hR0 hO0 hd1 hd2 hbl
      generalize o.cells = E at *
      as_aux_lemma =>
      go_upto_region 9 with (first | (refine wpList_load_mid rfl 34 _ rfl b (off + j * 4) rfl E d HR.out HD.out.1 HD.out.2 HIN.out ?_) | (refine wpList_store_mid rfl 34 _ _ rfl _ _ E.toArray rfl rfl HT.out HIN.out HC.out ?_))
      simp only [Act.put]
      generalize (wr.alloc (.cells #[.int .i64 0, .int .i64 0, .slice none 0 0, .slice none 0 0] 34)).setCells wr.heap.size 0 E = w2 at *
      obtain ⟨x0, x1, x2, x3⟩ := HV.out.keep rfl
      have HT2 : Hid (Twin w w2 g ge s s (fun x => False ∨ x = wr.heap.size)) := hid (hT.out.add HV.out.bel (fun x => x = wr.heap.size) (fun x hx => by subst hx; exact ⟨Nat.le_refl _, HV.out.lt⟩))
      clear HR HT HC HIN HD hT HV
      generalize wr.heap.size = v at *
      by_cases h100 : 100 ≤ j ∨ 100 < o.Bn ∨ 200 < o.Kn
      · have ht : decide ((100 : Int) ≤ (j : Int)) = true ∨ (decide ((100 : Int) ≤ (j : Int)) = false ∧ decide ((100 : Int) < (o.Bn : Int)) = true) ∨ (decide ((100 : Int) ≤ (j : Int)) = false ∧ decide ((100 : Int) < (o.Bn : Int)) = false ∧ decide ((200 : Int) < (o.Kn : Int)) = true) := by
          simp only [decide_eq_true_eq, decide_eq_false_iff_not]
          omega
        have HBL := hid (HBK.out w2 _ HT2.out)
        clear h100 HBK
        rcases ht with e1 | ⟨e1, e2⟩ | ⟨e1, e2, e3⟩
        all_goals
          as_aux_lemma =>
          go_wp2_with fail
          refine HBL.out.mono ?_
          rintro e w' ⟨rfl, rfl⟩
          go_wp2
          go_ret
          exact ⟨rfl, HT2.out.below⟩
      · have e1 : decide ((100 : Int) ≤ (j : Int)) = false := by simp; omega
        have e2 : decide ((100 : Int) < (o.Bn : Int)) = false := by simp; omega
        have e3 : decide ((200 : Int) < (o.Kn : Int)) = false := by simp; omega
        have HJ : Hid (j < 100) := hid (by omega)
        have HBN : Hid (o.Bn ≤ 100) := hid (by omega)
        clear h100 HBK
        have O0 : Hid ((w2.alloc (.cells #[] 5)).ownsRow w2.heap.size 5 1 (.slice (some ⟨w2.heap.size, 0, none⟩) 0 0) 0 []) := hid ⟨rfl, .inr ⟨w2.heap.size, 0, #[], rfl, Nat.le_refl _, heap_alloc_new w2 _, Nat.le_refl _, Nat.zero_le _, rfl, rfl⟩⟩
        have B0 : Hid (Below w2.heap.size w2 (w2.alloc (.cells #[] 5))) := hid ((Below.refl _ _).alloc (Nat.le_refl _) _)
        have hs0 : (w2.alloc (.cells #[] 5)).heap.size = w2.heap.size + 1 := by simp
        have v2 : (w2.alloc (.cells #[] 5)).cell? ⟨v, 2, none⟩ = some (.slice o.BA o.Bn o.Bc) := (World.cell?_of_block (B0.out.block v (block_lt0 x2))).trans x2
        have BL : Hid (Lst (w2.alloc (.cells #[] 5)) 0 w.heap.size o.BA o.Bn (bs o.l)) := hid ((HO.out.b.below (HT2.out.below.trans (B0.out.mono HT2.out.below.size)) (Nat.le_refl _)).lst)
        go_upto_block 2 with (at_builtin; refine wpList_appL _ rfl _ _ 31 rfl w2.heap.size 5 (.int .u8 0) 1 Try.underlying31 Try.infoU8 rfl _ 0 0 [] rfl O0.out 0 w.heap.size o.BA o.Bn o.Bc (bs o.l) rfl BL.out (bs_one _) (by have := HBN.out; omega) (by have := HBN.out; unfold maxLen; omega) (by rw [hs0]; omega) ?_)
        intro A6 c6 w6 hc6 ho6 hg6 hb6 hs6
        have HW6 : Hid (Below w2.heap.size w2 w6) := hid (B0.out.trans hb6)
        have hX6 : ∀ x, A6.map (·.block) = some x → w2.heap.size ≤ x ∧ x < w6.heap.size := fun x hx => by
          rcases ho6.2 with ⟨hv, _⟩ | ⟨q, cap, cur, hv, hbq, hg, _⟩
          · injection hv with hA; subst hA; cases hx
          · injection hv with hA; subst hA; simp at hx; subst hx; exact ⟨hbq, (Array.getElem?_eq_some_iff.1 hg).1⟩
        have HT6 : Hid (Twin w w6 g ge s s (fun x => x = v ∨ A6.map (·.block) = some x)) := hid ((HT2.out.add HW6.out _ hX6).less (fun x hx => by rcases hx with e | e; exact .inl (.inr e); exact .inr e))
        have ho6' : w6.ownsRow w2.heap.size 5 1 (.slice A6 o.Bn c6) o.Bn (bs o.l) := by simpa using ho6
        have HO6 := hid ho6'
        have HK6 : Hid (∀ i, w6.cell? ⟨v, i, none⟩ = w2.cell? ⟨v, i, none⟩) := hid (fun i => World.cell?_of_block (HW6.out.block v (block_lt0 x2)))
        have y0 := (HK6.out 0).trans x0
        have y1 := (HK6.out 1).trans x1
        have y2 := (HK6.out 2).trans x2
        have y3 := (HK6.out 3).trans x3
        have BL6 : Hid (Bts w6 0 w.heap.size o.BA o.Bn o.l) := hid (HO.out.b.below HT6.out.below (Nat.le_refl _))
        have KL6 : Hid (Lst w6 0 w.heap.size o.KA o.Kn (o.ks.map .bool)) := hid (HO.out.k.below HT6.out.below (Nat.le_refl _))
        have WL : Hid (s.W.length ≤ 100000) := hid (by have := hsW.out; have := HJ.out; omega)
        have HI1 := hid HO.out.i1
        have hvl : Hid (v < w2.heap.size) := hid (block_lt0 x2)
        obtain ⟨kd, hkd, hkdw⟩ := kmod0 o.kind 7 (by decide)
        rw [show ((7 : Nat) : Int) = 7 from rfl] at hkdw
        have HKD := hid hkd
        clear ho6 ho6' hg6 hb6 hs6 hc6 hX6 O0 B0 hs0 v2 BL x0 x1 x2 x3 HT2 HK6 hkd
        try rw [Nat.zero_add]
        go_upto_block 2 with fail
        go_cut [12, 13] (fun s12 s13 wx => ∃ (ev : Int) (s' : St), s12 = .int .i64 ev ∧ s13 = .int .i64 ev ∧ Hid (Twin w wx g ge s' s' (fun x => x = v ∨ A6.map (·.block) = some x)) ∧ Hid (s'.n = m) ∧ Hid (s'.W.length ≤ j + 1) ∧ Hid (∀ x, (x = v ∨ A6.map (·.block) = some x) → wx.heap[x]? = w6.heap[x]?))
        case first =>
          have hcases : kd = 0 ∨ kd = 2 ∨ kd = 3 ∨ kd = 4 ∨ kd = 5 ∨ kd = 6 ∨ kd = 1 := by have := HKD.out; omega
          rcases hcases with rfl | rfl | rfl | rfl | rfl | rfl | rfl
          · as_aux_lemma =>
            obtain ⟨F, hd, hF, hXF, hone⟩ := (HT6.out.bel (wr' := w6.drew) ((Below.refl _ _).drew)).one
            have HONE := hid hone
            have OB : Hid (Bts w6.drew 0 w6.drew.heap.size A6 o.Bn o.l) := hid (((Bts.own HO6.out).wide (Nat.zero_le _) (Nat.le_refl _)).kp (Kp.drew (fun _ => False) w6) (fun _ _ _ => id))
            have hc := write_any w6.drew F g s hd o.i A6 o.Bn c6 o.l OB.out (fun _ u hu => hXF u (.inr hu)) WL.out
            have HBT := hid HO.out.b
            clear hd hone hF hXF
            go_wp2_with fail
            refine wp_region_held_drew (S := fun wx => wx.cell? ⟨v, 1, none⟩ = some (.int .i64 o.i) ∧ wx.cell? ⟨v, 2, none⟩ = some (.slice o.BA o.Bn o.Bc) ∧ Bts wx 0 w.heap.size o.BA o.Bn o.l) (by kernel_rfl) ⟨by simpa using y1, by simpa using y2, HBT.out.below HT6.out.below.drew (Nat.le_refl _)⟩ (fun HS => ?_)
            refine wpAnyH_take (i := 0) (oi := ?oi0) (v := ?v0) ?hi0 (by kernel_rfl) (by kernel_rfl) (by kernel_rfl) ?hQ0 ?hy0 HS ?rest0
            case hi0 => simp only [List.getElem?_toArray, List.getElem?_cons_zero]; exact rfl
            case hQ0 => exact fun _ _ _ h => h
            case hy0 =>
              refine Or.inl ⟨by rfl, ?_⟩
              intro wS hSw
              go_simp
              try with_reducible rfl
            try simp only [Act.put, List.setIfInBounds_toArray, List.set_cons_zero, List.set_cons_succ]
            refine wpAnyH_take (i := 1) (oi := ?oi1) (v := ?v1) ?hi1 (by kernel_rfl) (by kernel_rfl) (by kernel_rfl) ?hQ1 ?hy1 HS ?rest1
            case hi1 => simp only [List.getElem?_toArray, List.getElem?_cons_succ, List.getElem?_cons_zero]; exact rfl
            case hQ1 => exact fun _ _ _ h => h
            case hy1 =>
              refine Or.inl ⟨by rfl, ?_⟩
              intro wS hSw
              go_simp
              try with_reducible rfl
            try simp only [Act.put, List.setIfInBounds_toArray, List.set_cons_zero, List.set_cons_succ]
            refine wpAnyH_take (i := 2) (oi := ?oi2) (v := ?v2) ?hi2 (by kernel_rfl) (by kernel_rfl) (by kernel_rfl) ?hQ2 ?hy2 HS ?rest2
            case hi2 => simp only [List.getElem?_toArray, List.getElem?_cons_succ, List.getElem?_cons_zero]; exact rfl
            case hQ2 => exact fun _ _ _ h => h
            case hy2 =>
              refine Or.inl ⟨by rfl, ?_⟩
              intro wS hSw
              obtain ⟨z0, z1, z2⟩ := hSw
              go_simp
              try with_reducible rfl
            try simp only [Act.put, List.setIfInBounds_toArray, List.set_cons_zero, List.set_cons_succ]
            refine wpAnyH_take (i := 3) (oi := ?oi3) (v := ?v3) ?hi3 (by kernel_rfl) (by kernel_rfl) (by kernel_rfl) ?hQ3 ?hy3 HS ?rest3
            case hi3 => simp only [List.getElem?_toArray, List.getElem?_cons_succ, List.getElem?_cons_zero]; exact rfl
            case hQ3 => exact fun _ _ _ h => h
            case hy3 =>
              refine Or.inl ⟨by rfl, ?_⟩
              intro wS hSw
              go_simp
              try with_reducible rfl
            try simp only [Act.put, List.setIfInBounds_toArray, List.set_cons_zero, List.set_cons_succ]
            refine wpAnyH_take (i := 5) (oi := ?oi5) (v := ?v5) ?hi5 (by kernel_rfl) (by kernel_rfl) (by kernel_rfl) ?hQ5 ?hy5 HS ?rest5
            case hi5 => simp only [List.getElem?_toArray, List.getElem?_cons_succ, List.getElem?_cons_zero]; exact rfl
            case hQ5 => exact fun _ _ _ h => h
            case hy5 =>
              refine Or.inl ⟨by rfl, ?_⟩
              intro wS hSw
              go_simp
              try with_reducible rfl
            try simp only [Act.put, List.setIfInBounds_toArray, List.set_cons_zero, List.set_cons_succ]
            refine wpAnyH_take (i := 6) (oi := ?oi6) (v := ?v6) ?hi6 (by kernel_rfl) (by kernel_rfl) (by kernel_rfl) ?hQ6 ?hy6 HS ?rest6
            case hi6 => simp only [List.getElem?_toArray, List.getElem?_cons_succ, List.getElem?_cons_zero]; exact rfl
            case hQ6 => exact fun _ _ _ h => h
            case hy6 =>
              refine Or.inl ⟨by rfl, ?_⟩
              intro wS hSw
              go_simp
              try with_reducible rfl
            try simp only [Act.put, List.setIfInBounds_toArray, List.set_cons_zero, List.set_cons_succ]
            refine wpAnyH_take (i := 7) (oi := ?oi7) (v := ?v7) ?hi7 (by kernel_rfl) (by kernel_rfl) (by kernel_rfl) ?hQ7 ?hy7 HS ?rest7
            case hi7 => simp only [List.getElem?_toArray, List.getElem?_cons_succ, List.getElem?_cons_zero]; exact rfl
            case hQ7 => exact fun _ _ _ h => h
            case hy7 =>
              refine Or.inl ⟨by rfl, ?_⟩
              intro wS hSw
              obtain ⟨z0, z1, z2⟩ := hSw
              go_simp
              try with_reducible rfl
            try simp only [Act.put, List.setIfInBounds_toArray, List.set_cons_zero, List.set_cons_succ]
            refine wpAnyH_take (i := 8) (oi := ?oi8) (v := ?v8) ?hi8 (by kernel_rfl) (by kernel_rfl) (by kernel_rfl) ?hQ8 ?hy8 HS ?rest8
            case hi8 => simp only [List.getElem?_toArray, List.getElem?_cons_succ, List.getElem?_cons_zero]; exact rfl
            case hQ8 => exact fun _ _ _ h => h
            case hy8 =>
              refine Or.inl ⟨by rfl, ?_⟩
              intro wS hSw
              go_simp
              try with_reducible rfl
            try simp only [Act.put, List.setIfInBounds_toArray, List.set_cons_zero, List.set_cons_succ]
            refine wpAnyH_take (i := 9) (oi := ?oi9) (v := ?v9) ?hi9 (by kernel_rfl) (by kernel_rfl) (by kernel_rfl) ?hQ9 ?hy9 HS ?rest9
            case hi9 => simp only [List.getElem?_toArray, List.getElem?_cons_succ, List.getElem?_cons_zero]; exact rfl
            case hQ9 => exact fun _ _ _ h => h
            case hy9 =>
              refine Or.inl ⟨by rfl, ?_⟩
              intro wS hSw
              obtain ⟨z0, z1, z2⟩ := hSw
              go_simp
              try with_reducible rfl
            try simp only [Act.put, List.setIfInBounds_toArray, List.set_cons_zero, List.set_cons_succ]
            refine wpAnyH_take (i := 10) (oi := ?oi10) (v := ?v10) ?hi10 (by kernel_rfl) (by kernel_rfl) (by kernel_rfl) ?hQ10 ?hy10 HS ?rest10
            case hi10 => simp only [List.getElem?_toArray, List.getElem?_cons_succ, List.getElem?_cons_zero]; exact rfl
            case hQ10 => exact fun _ _ _ h => h
            case hy10 =>
              refine Or.inl ⟨by rfl, ?_⟩
              intro wS hSw
              obtain ⟨z0, z1, z2⟩ := hSw
              have hcv := run_conv (c := o.Bc) z2
              go_simp
              try with_reducible rfl
            try simp only [Act.put, List.setIfInBounds_toArray, List.set_cons_zero, List.set_cons_succ]
            refine wpAnyH_ready (rs := [4]) (by kernel_rfl) (by simp) ?_
            refine AllReadyH.cons (o := ?o4) ?ho4 (fun K hK => ?step4) AllReadyH.nil
            case ho4 => simp only [List.getElem?_toArray, List.getElem?_cons_succ, List.getElem?_cons_zero]; exact rfl
            go_simp
            refine hc.mono ?_
            rintro e w7 ⟨rfl, hL⟩
            obtain ⟨t7, -, k7⟩ := HONE.out w7 _ hL
            obtain ⟨G, hd, -, -, htwo⟩ := t7.two
            have HTWO := hid htwo
            have K7 := hid k7
            have hc := rwrite_any w7 G ge s hd o.i o.l WL.out
            clear hd htwo hL HONE k7
            refine hK.out _ _ ⟨(World.cell?_of_block (K7.out v (.inl rfl))).trans HS.1, (World.cell?_of_block (K7.out v (.inl rfl))).trans HS.2.1, HBT.out.below t7.below (Nat.le_refl _)⟩ (fun HS => ?_)
            clear hK K
            try simp only [Act.put, List.setIfInBounds_toArray, List.set_cons_zero, List.set_cons_succ]
            refine wpAnyH_ready (rs := [11]) (by kernel_rfl) (by simp) ?_
            refine AllReadyH.cons (o := ?o11) ?ho11 (fun K hK => ?step11) AllReadyH.nil
            case ho11 => simp only [List.getElem?_toArray, List.getElem?_cons_succ, List.getElem?_cons_zero]; exact rfl
            go_simp
            refine hc.mono ?_
            rintro e w8 ⟨rfl, hL⟩
            obtain ⟨t8, -, k8⟩ := HTWO.out w8 _ hL
            have K8 := hid k8
            have T8 := hid t8
            clear hL HTWO k8
            refine hK.out _ _ ⟨(World.cell?_of_block (K8.out v (.inl rfl))).trans HS.1, (World.cell?_of_block (K8.out v (.inl rfl))).trans HS.2.1, HBT.out.below t8.below (Nat.le_refl _)⟩ (fun HS => ?_)
            clear hK K
            try simp only [Act.put, List.setIfInBounds_toArray, List.set_cons_zero, List.set_cons_succ]
            have K9 : Hid (∀ x, (x = v ∨ A6.map (·.block) = some x) → w8.heap[x]? = w6.heap[x]?) := hid (fun x hx => (K8.out x hx).trans ((K7.out x hx).trans rfl))
            clear K7 K8 hc t7 t8
            generalize wrE s o.i o.l.length = ev at *
            refine wpAnyH_take (i := 12) (oi := ?oi12) (v := ?v12) ?hi12 (by kernel_rfl) (by kernel_rfl) (by kernel_rfl) ?hQ12 ?hy12 HS ?rest12
            case hi12 => simp only [List.getElem?_toArray, List.getElem?_cons_succ, List.getElem?_cons_zero]; exact rfl
            case hQ12 => exact fun _ _ _ h => h
            case hy12 =>
              refine Or.inl ⟨by rfl, ?_⟩
              intro wS hSw
              go_simp
              try with_reducible rfl
            try simp only [Act.put, List.setIfInBounds_toArray, List.set_cons_zero, List.set_cons_succ]
            refine wpAnyH_take (i := 13) (oi := ?oi13) (v := ?v13) ?hi13 (by kernel_rfl) (by kernel_rfl) (by kernel_rfl) ?hQ13 ?hy13 HS ?rest13
            case hi13 => simp only [List.getElem?_toArray, List.getElem?_cons_succ, List.getElem?_cons_zero]; exact rfl
            case hQ13 => exact fun _ _ _ h => h
            case hy13 =>
              refine Or.inl ⟨by rfl, ?_⟩
              intro wS hSw
              go_simp
              try with_reducible rfl
            try simp only [Act.put, List.setIfInBounds_toArray, List.set_cons_zero, List.set_cons_succ]
            refine wpAnyH_done (by kernel_rfl) ?_ _
            clear HS
            go_wp2_with fail
            go_meet
            case rel => exact ⟨ev, _, rfl, rfl, T8, hid ((wrS_n s _ _).trans hsn.out), hid (by have := wrS_W s o.i o.l; have := hsW.out; omega), K9⟩
          · as_aux_lemma =>
            obtain ⟨F, hd, -, -, hone⟩ := HT6.out.one
            have HONE := hid hone
            have hc := sync_any w6 F g s hd WL.out
            clear hd hone
            go_wp2_with fail
            refine hc.mono ?_
            rintro e w7 ⟨rfl, hL⟩
            obtain ⟨t7, -, k7⟩ := HONE.out w7 _ hL
            obtain ⟨G, hd, -, -, htwo⟩ := t7.two
            have HTWO := hid htwo
            have K7 := hid k7
            have hc := rsync_any w7 G ge s hd WL.out
            clear hd htwo hL HONE t7 k7
            go_wp2_with fail
            refine hc.mono ?_
            rintro e w8 ⟨rfl, hL⟩
            obtain ⟨t8, -, k8⟩ := HTWO.out w8 _ hL
            have T8 := hid t8
            have K8 := hid (fun x hx => (k8 x hx).trans (K7.out x hx))
            clear hL HTWO t8 k8 K7 hc
            generalize caE s = ev at *
            go_wp2_with fail
            go_meet
            case rel => exact ⟨ev, _, rfl, rfl, T8, hid ((syS_n s).trans hsn.out), hid (by have := syS_W s; have := hsW.out; omega), K8⟩
          · as_aux_lemma =>
            obtain ⟨F, hd, -, -, hone⟩ := HT6.out.one
            have HONE := hid hone
            have hc := beat_any w6 F g s hd
            clear hd hone
            go_wp2_with fail
            refine hc.mono ?_
            rintro e w7 ⟨rfl, hL⟩
            obtain ⟨t7, -, k7⟩ := HONE.out w7 _ hL
            obtain ⟨G, hd, -, -, htwo⟩ := t7.two
            have HTWO := hid htwo
            have K7 := hid k7
            have hc := rbeat_any w7 G ge s hd
            clear hd htwo hL HONE t7 k7
            go_wp2_with fail
            refine hc.mono ?_
            rintro e w8 ⟨rfl, hL⟩
            obtain ⟨t8, -, k8⟩ := HTWO.out w8 _ hL
            have T8 := hid t8
            have K8 := hid (fun x hx => (k8 x hx).trans (K7.out x hx))
            clear hL HTWO t8 k8 K7 hc
            generalize caE s = ev at *
            go_wp2_with fail
            go_meet
            case rel => exact ⟨ev, _, rfl, rfl, T8, hid ((beS_n s).trans hsn.out), hid (by have := beS_W s; have := hsW.out; omega), K8⟩
          · as_aux_lemma =>
            obtain ⟨F, hd, -, -, hone⟩ := HT6.out.one
            have HONE := hid hone
            have hc := limit_c w6 F g s hd o.i HI1.out.2
            clear hd hone
            go_wp2_with fail
            refine hc.mono ?_
            rintro e w7 ⟨rfl, hL⟩
            obtain ⟨t7, -, k7⟩ := HONE.out w7 _ hL
            obtain ⟨G, hd, -, -, htwo⟩ := t7.two
            have HTWO := hid htwo
            have K7 := hid k7
            have y7 : w7.cell? ⟨v, 1, none⟩ = some (.int .i64 o.i) := (World.cell?_of_block (k7 v (.inl rfl))).trans y1
            have hc := rbound_c w7 G ge s hd o.i HI1.out.2
            clear hd htwo hL HONE t7 k7
            go_wp2_with fail
            refine hc.mono ?_
            rintro e w8 ⟨rfl, hL⟩
            obtain ⟨t8, -, k8⟩ := HTWO.out w8 _ hL
            have T8 := hid t8
            have K8 := hid (fun x hx => (k8 x hx).trans (K7.out x hx))
            clear hL HTWO t8 k8 K7 hc
            go_wp2_with fail
            go_meet
            case rel => exact ⟨0, _, rfl, rfl, T8, hid (hsn.out), hid (by show s.W.length ≤ _; have := hsW.out; omega), K8⟩
          · as_aux_lemma =>
            obtain ⟨F, hd, hF, -, hone⟩ := HT6.out.one
            have HONE := hid hone
            have hc := crash_c w6 F g s hd o.KA o.Kn o.Kc o.ks (KL6.out.wide (Nat.le_refl _) HT6.out.below.size) (fun h0 u hu e => by have := KL6.out.lt2 h0 u hu; have := hF u e; omega) (by have := WL.out; omega)
            clear hd hone hF
            go_wp2_with fail
            refine hc.mono ?_
            rintro e w7 ⟨rfl, hL⟩
            obtain ⟨t7, -, k7⟩ := HONE.out w7 _ hL
            obtain ⟨G, hd, hG, -, htwo⟩ := t7.two
            have HTWO := hid htwo
            have K7 := hid k7
            have y7 : w7.cell? ⟨v, 3, none⟩ = some (.slice o.KA o.Kn o.Kc) := (World.cell?_of_block (k7 v (.inl rfl))).trans y3
            have hc := rcrash_c w7 G ge s hd o.KA o.Kn o.Kc o.ks ((HO.out.k.below t7.below (Nat.le_refl _)).wide (Nat.le_refl _) t7.below.size) (fun h0 u hu e => by have := HO.out.k.lt2 h0 u hu; have := hG u e; omega) (by have := WL.out; omega)
            clear hd hG htwo hL HONE t7 k7
            go_wp2_with fail
            refine hc.mono ?_
            rintro e w8 ⟨rfl, hL⟩
            obtain ⟨t8, -, k8⟩ := HTWO.out w8 _ hL
            have T8 := hid t8
            have K8 := hid (fun x hx => (k8 x hx).trans (K7.out x hx))
            clear hL HTWO t8 k8 K7 hc
            go_wp2_with fail
            go_meet
            case rel => exact ⟨0, _, rfl, rfl, T8, hid (hsn.out), hid (by show ([] : Wr).length ≤ _; simp), K8⟩
          · as_aux_lemma =>
            obtain ⟨F, hd, hF, hXF, hone⟩ := (HT6.out.bel (wr' := w6.drew) ((Below.refl _ _).drew)).one
            have HONE := hid hone
            have OB : Hid (Bts w6.drew 0 w6.drew.heap.size A6 o.Bn o.l) := hid (((Bts.own HO6.out).wide (Nat.zero_le _) (Nat.le_refl _)).kp (Kp.drew (fun _ => False) w6) (fun _ _ _ => id))
            have hc := over_any w6.drew F g s hd o.i A6 o.Bn c6 o.l OB.out WL.out
            have HBT := hid HO.out.b
            clear hd hone hF hXF
            go_wp2_with fail
            refine wp_region_held_drew (S := fun wx => wx.cell? ⟨v, 1, none⟩ = some (.int .i64 o.i) ∧ wx.cell? ⟨v, 2, none⟩ = some (.slice o.BA o.Bn o.Bc) ∧ Bts wx 0 w.heap.size o.BA o.Bn o.l) (by kernel_rfl) ⟨by simpa using y1, by simpa using y2, HBT.out.below HT6.out.below.drew (Nat.le_refl _)⟩ (fun HS => ?_)
            refine wpAnyH_take (i := 0) (oi := ?oio0) (v := ?vo0) ?hio0 (by kernel_rfl) (by kernel_rfl) (by kernel_rfl) ?hQo0 ?hyo0 HS ?resto0
            case hio0 => simp only [List.getElem?_toArray, List.getElem?_cons_zero]; exact rfl
            case hQo0 => exact fun _ _ _ h => h
            case hyo0 =>
              refine Or.inl ⟨by rfl, ?_⟩
              intro wS hSw
              go_simp
              try with_reducible rfl
            try simp only [Act.put, List.setIfInBounds_toArray, List.set_cons_zero, List.set_cons_succ]
            refine wpAnyH_take (i := 1) (oi := ?oio1) (v := ?vo1) ?hio1 (by kernel_rfl) (by kernel_rfl) (by kernel_rfl) ?hQo1 ?hyo1 HS ?resto1
            case hio1 => simp only [List.getElem?_toArray, List.getElem?_cons_succ, List.getElem?_cons_zero]; exact rfl
            case hQo1 => exact fun _ _ _ h => h
            case hyo1 =>
              refine Or.inl ⟨by rfl, ?_⟩
              intro wS hSw
              go_simp
              try with_reducible rfl
            try simp only [Act.put, List.setIfInBounds_toArray, List.set_cons_zero, List.set_cons_succ]
            refine wpAnyH_take (i := 2) (oi := ?oio2) (v := ?vo2) ?hio2 (by kernel_rfl) (by kernel_rfl) (by kernel_rfl) ?hQo2 ?hyo2 HS ?resto2
            case hio2 => simp only [List.getElem?_toArray, List.getElem?_cons_succ, List.getElem?_cons_zero]; exact rfl
            case hQo2 => exact fun _ _ _ h => h
            case hyo2 =>
              refine Or.inl ⟨by rfl, ?_⟩
              intro wS hSw
              obtain ⟨z0, z1, z2⟩ := hSw
              go_simp
              try with_reducible rfl
            try simp only [Act.put, List.setIfInBounds_toArray, List.set_cons_zero, List.set_cons_succ]
            refine wpAnyH_take (i := 3) (oi := ?oio3) (v := ?vo3) ?hio3 (by kernel_rfl) (by kernel_rfl) (by kernel_rfl) ?hQo3 ?hyo3 HS ?resto3
            case hio3 => simp only [List.getElem?_toArray, List.getElem?_cons_succ, List.getElem?_cons_zero]; exact rfl
            case hQo3 => exact fun _ _ _ h => h
            case hyo3 =>
              refine Or.inl ⟨by rfl, ?_⟩
              intro wS hSw
              go_simp
              try with_reducible rfl
            try simp only [Act.put, List.setIfInBounds_toArray, List.set_cons_zero, List.set_cons_succ]
            refine wpAnyH_take (i := 5) (oi := ?oio5) (v := ?vo5) ?hio5 (by kernel_rfl) (by kernel_rfl) (by kernel_rfl) ?hQo5 ?hyo5 HS ?resto5
            case hio5 => simp only [List.getElem?_toArray, List.getElem?_cons_succ, List.getElem?_cons_zero]; exact rfl
            case hQo5 => exact fun _ _ _ h => h
            case hyo5 =>
              refine Or.inl ⟨by rfl, ?_⟩
              intro wS hSw
              go_simp
              try with_reducible rfl
            try simp only [Act.put, List.setIfInBounds_toArray, List.set_cons_zero, List.set_cons_succ]
            refine wpAnyH_take (i := 6) (oi := ?oio6) (v := ?vo6) ?hio6 (by kernel_rfl) (by kernel_rfl) (by kernel_rfl) ?hQo6 ?hyo6 HS ?resto6
            case hio6 => simp only [List.getElem?_toArray, List.getElem?_cons_succ, List.getElem?_cons_zero]; exact rfl
            case hQo6 => exact fun _ _ _ h => h
            case hyo6 =>
              refine Or.inl ⟨by rfl, ?_⟩
              intro wS hSw
              go_simp
              try with_reducible rfl
            try simp only [Act.put, List.setIfInBounds_toArray, List.set_cons_zero, List.set_cons_succ]
            refine wpAnyH_take (i := 7) (oi := ?oio7) (v := ?vo7) ?hio7 (by kernel_rfl) (by kernel_rfl) (by kernel_rfl) ?hQo7 ?hyo7 HS ?resto7
            case hio7 => simp only [List.getElem?_toArray, List.getElem?_cons_succ, List.getElem?_cons_zero]; exact rfl
            case hQo7 => exact fun _ _ _ h => h
            case hyo7 =>
              refine Or.inl ⟨by rfl, ?_⟩
              intro wS hSw
              obtain ⟨z0, z1, z2⟩ := hSw
              go_simp
              try with_reducible rfl
            try simp only [Act.put, List.setIfInBounds_toArray, List.set_cons_zero, List.set_cons_succ]
            refine wpAnyH_take (i := 8) (oi := ?oio8) (v := ?vo8) ?hio8 (by kernel_rfl) (by kernel_rfl) (by kernel_rfl) ?hQo8 ?hyo8 HS ?resto8
            case hio8 => simp only [List.getElem?_toArray, List.getElem?_cons_succ, List.getElem?_cons_zero]; exact rfl
            case hQo8 => exact fun _ _ _ h => h
            case hyo8 =>
              refine Or.inl ⟨by rfl, ?_⟩
              intro wS hSw
              go_simp
              try with_reducible rfl
            try simp only [Act.put, List.setIfInBounds_toArray, List.set_cons_zero, List.set_cons_succ]
            refine wpAnyH_take (i := 9) (oi := ?oio9) (v := ?vo9) ?hio9 (by kernel_rfl) (by kernel_rfl) (by kernel_rfl) ?hQo9 ?hyo9 HS ?resto9
            case hio9 => simp only [List.getElem?_toArray, List.getElem?_cons_succ, List.getElem?_cons_zero]; exact rfl
            case hQo9 => exact fun _ _ _ h => h
            case hyo9 =>
              refine Or.inl ⟨by rfl, ?_⟩
              intro wS hSw
              obtain ⟨z0, z1, z2⟩ := hSw
              go_simp
              try with_reducible rfl
            try simp only [Act.put, List.setIfInBounds_toArray, List.set_cons_zero, List.set_cons_succ]
            refine wpAnyH_take (i := 10) (oi := ?oio10) (v := ?vo10) ?hio10 (by kernel_rfl) (by kernel_rfl) (by kernel_rfl) ?hQo10 ?hyo10 HS ?resto10
            case hio10 => simp only [List.getElem?_toArray, List.getElem?_cons_succ, List.getElem?_cons_zero]; exact rfl
            case hQo10 => exact fun _ _ _ h => h
            case hyo10 =>
              refine Or.inl ⟨by rfl, ?_⟩
              intro wS hSw
              obtain ⟨z0, z1, z2⟩ := hSw
              have hcv := run_conv (c := o.Bc) z2
              go_simp
              try with_reducible rfl
            try simp only [Act.put, List.setIfInBounds_toArray, List.set_cons_zero, List.set_cons_succ]
            refine wpAnyH_ready (rs := [4]) (by kernel_rfl) (by simp) ?_
            refine AllReadyH.cons (o := ?oo4) ?hoo4 (fun K hK => ?stepo4) AllReadyH.nil
            case hoo4 => simp only [List.getElem?_toArray, List.getElem?_cons_succ, List.getElem?_cons_zero]; exact rfl
            go_simp
            refine hc.mono ?_
            rintro e w7 ⟨rfl, hL⟩
            obtain ⟨t7, -, k7⟩ := HONE.out w7 _ hL
            obtain ⟨G, hd, -, -, htwo⟩ := t7.two
            have HTWO := hid htwo
            have K7 := hid k7
            have hc := rover_any w7 G ge s hd o.i o.l WL.out
            clear hd htwo hL HONE k7
            refine hK.out _ _ ⟨(World.cell?_of_block (K7.out v (.inl rfl))).trans HS.1, (World.cell?_of_block (K7.out v (.inl rfl))).trans HS.2.1, HBT.out.below t7.below (Nat.le_refl _)⟩ (fun HS => ?_)
            clear hK K
            try simp only [Act.put, List.setIfInBounds_toArray, List.set_cons_zero, List.set_cons_succ]
            refine wpAnyH_ready (rs := [11]) (by kernel_rfl) (by simp) ?_
            refine AllReadyH.cons (o := ?oo11) ?hoo11 (fun K hK => ?stepo11) AllReadyH.nil
            case hoo11 => simp only [List.getElem?_toArray, List.getElem?_cons_succ, List.getElem?_cons_zero]; exact rfl
            go_simp
            refine hc.mono ?_
            rintro e w8 ⟨rfl, hL⟩
            obtain ⟨t8, -, k8⟩ := HTWO.out w8 _ hL
            have K8 := hid k8
            have T8 := hid t8
            clear hL HTWO k8
            refine hK.out _ _ ⟨(World.cell?_of_block (K8.out v (.inl rfl))).trans HS.1, (World.cell?_of_block (K8.out v (.inl rfl))).trans HS.2.1, HBT.out.below t8.below (Nat.le_refl _)⟩ (fun HS => ?_)
            clear hK K
            try simp only [Act.put, List.setIfInBounds_toArray, List.set_cons_zero, List.set_cons_succ]
            have K9 : Hid (∀ x, (x = v ∨ A6.map (·.block) = some x) → w8.heap[x]? = w6.heap[x]?) := hid (fun x hx => (K8.out x hx).trans ((K7.out x hx).trans rfl))
            clear K7 K8 hc t7 t8
            generalize ovE s o.i o.l.length = ev at *
            refine wpAnyH_take (i := 12) (oi := ?oio12) (v := ?vo12) ?hio12 (by kernel_rfl) (by kernel_rfl) (by kernel_rfl) ?hQo12 ?hyo12 HS ?resto12
            case hio12 => simp only [List.getElem?_toArray, List.getElem?_cons_succ, List.getElem?_cons_zero]; exact rfl
            case hQo12 => exact fun _ _ _ h => h
            case hyo12 =>
              refine Or.inl ⟨by rfl, ?_⟩
              intro wS hSw
              go_simp
              try with_reducible rfl
            try simp only [Act.put, List.setIfInBounds_toArray, List.set_cons_zero, List.set_cons_succ]
            refine wpAnyH_take (i := 13) (oi := ?oio13) (v := ?vo13) ?hio13 (by kernel_rfl) (by kernel_rfl) (by kernel_rfl) ?hQo13 ?hyo13 HS ?resto13
            case hio13 => simp only [List.getElem?_toArray, List.getElem?_cons_succ, List.getElem?_cons_zero]; exact rfl
            case hQo13 => exact fun _ _ _ h => h
            case hyo13 =>
              refine Or.inl ⟨by rfl, ?_⟩
              intro wS hSw
              go_simp
              try with_reducible rfl
            try simp only [Act.put, List.setIfInBounds_toArray, List.set_cons_zero, List.set_cons_succ]
            refine wpAnyH_done (by kernel_rfl) ?_ _
            clear HS
            go_wp2_with fail
            go_meet
            case rel => exact ⟨ev, _, rfl, rfl, T8, hid ((ovS_n s _ _).trans hsn.out), hid (by have := ovS_W s o.i o.l; have := hsW.out; omega), K9⟩
          · as_aux_lemma =>
            go_wp2_with fail
            go_meet
            case rel => exact ⟨0, s, rfl, rfl, HT6, hsn, hid (by have := hsW.out; omega), hid (fun _ _ => rfl)⟩
        case rest =>
          obtain ⟨ev, s', rfl, rfl, hT7, hn7, hW7, hX7⟩ := hcut
          have HO7 : Hid (wc.ownsRow w2.heap.size 5 1 (.slice A6 o.Bn c6) o.Bn (bs o.l)) := hid (own_keep HO6.out fun b hb => hX7.out b (.inr hb))
          have HZ1 : Hid (wc.cell? ⟨v, 1, none⟩ = some (.int .i64 o.i)) := hid ((World.cell?_of_block (hX7.out v (.inl rfl))).trans y1)
          have HVL : Hid (v < w2.heap.size) := hid hvl.out
          have HOL : Hid (o.l.length = o.Bn) := hid HO.out.b.len
          have WL7 : Hid (s'.W.length ≤ 1000000) := hid (by have := hW7.out; have := HJ.out; omega)
          clear y0 y1 y2 y3 HO6 BL6 KL6 HT6 HW6 WL hkdw hX7 hvl HI1 HO HKD hsn hsW
          go_wp2_with fail
          go_loopg [129] o.Bn (fun k iv wr => ∃ (q : Nat) (zs : List UInt8), iv = .int .i64 (q : Int) ∧ Hid (k = o.Bn - q) ∧ Hid (q ≤ o.Bn) ∧ Hid (zs.length = o.Bn) ∧ Hid (wr.ownsRow w2.heap.size 5 1 (.slice A6 o.Bn c6) o.Bn (bs zs)) ∧ Hid (Twin w wr g ge s' s' (fun x => x = v ∨ A6.map (·.block) = some x)) ∧ Hid (wr.cell? ⟨v, 1, none⟩ = some (.int .i64 o.i)))
          case atStart => exact ⟨0, o.l, rfl, hid (by omega), hid (Nat.zero_le _), HOL, HO7, hT7, HZ1⟩
          case round =>
            obtain ⟨q, zs, rfl, hgq, hq, hzs, hzo, hzT, hz1⟩ := hrel
            clear HO7 hT7 HZ1 HOL
            rcases Nat.lt_or_ge q o.Bn with hql | hqg
            · as_aux_lemma =>
              obtain ⟨ab, bb, rfl, hab, a1, a2, hst⟩ := inv_own hzo.out hzs.out hql
              have q1 : (0 : Int) ≤ (q : Int) := by omega
              have q2 : (q : Int) < (o.Bn : Int) := by omega
              have q3 : decide ((q : Int) < (o.Bn : Int)) = true := by simpa using hql
              have q4 : decide (q < o.Bn) = true := by simpa using hql
              have wq : wrap64 ((q : Int) + 1) = ((q + 1 : Nat) : Int) := by have := HBN.out; unfold wrap64; omega
              have xq := xor255 bb
              have HST := hid (hst (255 - bb))
              have HTS := hid (hzT.out.set (.inr rfl) q (.int .u8 ((255 - bb).toNat : Int)))
              have HCS : Hid ((wr.setCell ⟨ab, q, none⟩ (.int .u8 ((255 - bb).toNat : Int))).cell? ⟨v, 1, none⟩ = some (.int .i64 o.i)) := hid ((World.cell?_of_block ((grown_setCell wr ab q _).block v (by have := hzT.out.lt (.inl rfl); exact this) (fun e => by injection e with e; have := HVL.out; omega))).trans hz1.out)
              have HLS : Hid ((zs.set q (255 - bb)).length = o.Bn) := hid (by simpa using hzs.out)
              clear hst hab hzo hzT hz1 hzs
              go_wp2
              go_roundg (o.Bn - (q + 1))
              case measure => have := hgq.out; omega
              case rel => exact ⟨q + 1, zs.set q (255 - bb), congrArg (Value.int .i64) (by first | exact wq | omega | rfl), hid rfl, hid (by omega), HLS, HST, HTS, HCS⟩
            · have q3 : decide ((q : Int) < (o.Bn : Int)) = false := by simp; omega
              have q4 : decide (q < o.Bn) = false := by simp; omega
              clear hzs hzo hgq hq hqg
              have HTB : Hid (Twin w wr.drew g ge s' s' (fun x => x = v)) := hid ((hzT.out.bel ((Below.refl _ _).drew)).less (fun x hx => .inl hx))
              have HZB : Hid (wr.drew.cell? ⟨v, 1, none⟩ = some (.int .i64 o.i)) := hid ((World.cell?_of_block rfl).trans hz1.out)
              clear hzT hz1
              as_aux_lemma =>
              go_wp2_with fail
              obtain ⟨F, hd, -, -, -⟩ := HTB.out.one
              have hcw := waiting_c _ F g s' hd
              obtain ⟨G, ⟨kb, kc, LA, lc, hd2⟩, -, -, -⟩ := HTB.out.two
              obtain ⟨-, hd2, -⟩ := hd2.cells
              clear hd
              refine wp_region_held_drew (S := fun wx => wx = wr.drew) (by kernel_rfl) rfl (fun HS => ?_)
              generalize wr.drew = w9 at *
              have hne : (ev != ev) = false := by simp
              have hlen : ((s'.W.length : Int) != (s'.W.length : Int)) = false := by simp
              refine wpAnyH_take (i := 0) (oi := ?oix0) (v := ?vx0) ?hix0 (by kernel_rfl) (by kernel_rfl) (by kernel_rfl) ?hQx0 ?hyx0 HS ?restx0
              case hix0 => simp only [List.getElem?_toArray, List.getElem?_cons_zero]; exact rfl
              case hQx0 => exact fun _ _ _ h => h
              case hyx0 =>
                refine Or.inl ⟨by rfl, ?_⟩
                intro wS hSw
                go_simp
                try with_reducible rfl
              try simp only [Act.put, List.setIfInBounds_toArray, List.set_cons_zero, List.set_cons_succ]
              refine wpAnyH_take (i := 1) (oi := ?oix1) (v := ?vx1) ?hix1 (by kernel_rfl) (by kernel_rfl) (by kernel_rfl) ?hQx1 ?hyx1 HS ?restx1
              case hix1 => simp only [List.getElem?_toArray, List.getElem?_cons_succ, List.getElem?_cons_zero]; exact rfl
              case hQx1 => exact fun _ _ _ h => h
              case hyx1 =>
                refine Or.inl ⟨by rfl, ?_⟩
                intro wS hSw
                go_simp
                try with_reducible rfl
              try simp only [Act.put, List.setIfInBounds_toArray, List.set_cons_zero, List.set_cons_succ]
              refine wpAnyH_take (i := 2) (oi := ?oix2) (v := ?vx2) ?hix2 (by kernel_rfl) (by kernel_rfl) (by kernel_rfl) ?hQx2 ?hyx2 HS ?restx2
              case hix2 => simp only [List.getElem?_toArray, List.getElem?_cons_succ, List.getElem?_cons_zero]; exact rfl
              case hQx2 => exact fun _ _ _ h => h
              case hyx2 =>
                refine Or.inl ⟨by rfl, ?_⟩
                intro wS hSw
                go_simp
                try with_reducible rfl
              try simp only [Act.put, List.setIfInBounds_toArray, List.set_cons_zero, List.set_cons_succ]
              refine wpAnyH_take (i := 3) (oi := ?oix3) (v := ?vx3) ?hix3 (by kernel_rfl) (by kernel_rfl) (by kernel_rfl) ?hQx3 ?hyx3 HS ?restx3
              case hix3 => simp only [List.getElem?_toArray, List.getElem?_cons_succ, List.getElem?_cons_zero]; exact rfl
              case hQx3 => exact fun _ _ _ h => h
              case hyx3 =>
                refine Or.inl ⟨by rfl, ?_⟩
                intro wS hSw
                go_simp
                try with_reducible rfl
              try simp only [Act.put, List.setIfInBounds_toArray, List.set_cons_zero, List.set_cons_succ]
              refine wpAnyH_take (i := 4) (oi := ?oix4) (v := ?vx4) ?hix4 (by kernel_rfl) (by kernel_rfl) (by kernel_rfl) ?hQx4 ?hyx4 HS ?restx4
              case hix4 => simp only [List.getElem?_toArray, List.getElem?_cons_succ, List.getElem?_cons_zero]; exact rfl
              case hQx4 => exact fun _ _ _ h => h
              case hyx4 =>
                refine Or.inl ⟨by rfl, ?_⟩
                intro wS hSw
                go_simp
                try with_reducible rfl
              try simp only [Act.put, List.setIfInBounds_toArray, List.set_cons_zero, List.set_cons_succ]
              refine wpAnyH_take (i := 6) (oi := ?oix6) (v := ?vx6) ?hix6 (by kernel_rfl) (by kernel_rfl) (by kernel_rfl) ?hQx6 ?hyx6 HS ?restx6
              case hix6 => simp only [List.getElem?_toArray, List.getElem?_cons_succ, List.getElem?_cons_zero]; exact rfl
              case hQx6 => exact fun _ _ _ h => h
              case hyx6 =>
                refine Or.inl ⟨by rfl, ?_⟩
                intro wS hSw
                go_simp
                try with_reducible rfl
              try simp only [Act.put, List.setIfInBounds_toArray, List.set_cons_zero, List.set_cons_succ]
              refine wpAnyH_take (i := 7) (oi := ?oix7) (v := ?vx7) ?hix7 (by kernel_rfl) (by kernel_rfl) (by kernel_rfl) ?hQx7 ?hyx7 HS ?restx7
              case hix7 => simp only [List.getElem?_toArray, List.getElem?_cons_succ, List.getElem?_cons_zero]; exact rfl
              case hQx7 => exact fun _ _ _ h => h
              case hyx7 =>
                refine Or.inl ⟨by rfl, ?_⟩
                intro wS hSw
                go_simp
                try with_reducible rfl
              try simp only [Act.put, List.setIfInBounds_toArray, List.set_cons_zero, List.set_cons_succ]
              refine wpAnyH_take (i := 8) (oi := ?oix8) (v := ?vx8) ?hix8 (by kernel_rfl) (by kernel_rfl) (by kernel_rfl) ?hQx8 ?hyx8 HS ?restx8
              case hix8 => simp only [List.getElem?_toArray, List.getElem?_cons_succ, List.getElem?_cons_zero]; exact rfl
              case hQx8 => exact fun _ _ _ h => h
              case hyx8 =>
                refine Or.inl ⟨by rfl, ?_⟩
                intro wS hSw
                go_simp
                try with_reducible rfl
              try simp only [Act.put, List.setIfInBounds_toArray, List.set_cons_zero, List.set_cons_succ]
              refine wpAnyH_take (i := 9) (oi := ?oix9) (v := ?vx9) ?hix9 (by kernel_rfl) (by kernel_rfl) (by kernel_rfl) ?hQx9 ?hyx9 HS ?restx9
              case hix9 => simp only [List.getElem?_toArray, List.getElem?_cons_succ, List.getElem?_cons_zero]; exact rfl
              case hQx9 => exact fun _ _ _ h => h
              case hyx9 =>
                refine Or.inl ⟨by rfl, ?_⟩
                intro wS hSw
                subst hSw
                go_simp
                try with_reducible rfl
              try simp only [Act.put, List.setIfInBounds_toArray, List.set_cons_zero, List.set_cons_succ]
              refine wpAnyH_take (i := 10) (oi := ?oix10) (v := ?vx10) ?hix10 (by kernel_rfl) (by kernel_rfl) (by kernel_rfl) ?hQx10 ?hyx10 HS ?restx10
              case hix10 => simp only [List.getElem?_toArray, List.getElem?_cons_succ, List.getElem?_cons_zero]; exact rfl
              case hQx10 => exact fun _ _ _ h => h
              case hyx10 =>
                refine Or.inl ⟨by rfl, ?_⟩
                intro wS hSw
                go_simp
                try with_reducible rfl
              try simp only [Act.put, List.setIfInBounds_toArray, List.set_cons_zero, List.set_cons_succ]
              refine wpAnyH_ready (rs := [5]) (by kernel_rfl) (by simp) ?_
              refine AllReadyH.cons (o := ?ox5) ?hox5 (fun K hK => ?stepx5) AllReadyH.nil
              case hox5 => simp only [List.getElem?_toArray, List.getElem?_cons_succ, List.getElem?_cons_zero]; exact rfl
              go_simp
              refine hcw.mono ?_
              rintro e wa ⟨rfl, rfl⟩
              refine hK.out _ _ HS (fun HS => ?_)
              clear hK K
              try simp only [Act.put, List.setIfInBounds_toArray, List.set_cons_zero, List.set_cons_succ]
              refine wpAnyH_take (i := 11) (oi := ?oix11) (v := ?vx11) ?hix11 (by kernel_rfl) (by kernel_rfl) (by kernel_rfl) ?hQx11 ?hyx11 HS ?restx11
              case hix11 => simp only [List.getElem?_toArray, List.getElem?_cons_succ, List.getElem?_cons_zero]; exact rfl
              case hQx11 => exact fun _ _ _ h => h
              case hyx11 =>
                refine Or.inl ⟨by rfl, ?_⟩
                intro wS hSw
                go_simp
                try with_reducible rfl
              try simp only [Act.put, List.setIfInBounds_toArray, List.set_cons_zero, List.set_cons_succ]
              refine wpAnyH_take (i := 12) (oi := ?oix12) (v := ?vx12) ?hix12 (by kernel_rfl) (by kernel_rfl) (by kernel_rfl) ?hQx12 ?hyx12 HS ?restx12
              case hix12 => simp only [List.getElem?_toArray, List.getElem?_cons_succ, List.getElem?_cons_zero]; exact rfl
              case hQx12 => exact fun _ _ _ h => h
              case hyx12 =>
                refine Or.inl ⟨by rfl, ?_⟩
                intro wS hSw
                go_simp
                try with_reducible rfl
              try simp only [Act.put, List.setIfInBounds_toArray, List.set_cons_zero, List.set_cons_succ]
              refine wpAnyH_done (by kernel_rfl) ?_ _
              have HT9 := HTB
              have HZ9 := HZB
              clear HTB HZB HS hcw hd2 hne hlen
              go_wp2_with fail
              go_loopg [15] (m + 2) (fun k iv wr => ∃ q : Nat, iv = .int .i64 ((q : Int) - 1) ∧ Hid (k = m + 2 - q) ∧ Hid (q ≤ m + 2) ∧ Hid (Twin w wr g ge s' s' (fun x => x = v)) ∧ Hid (wr.cell? ⟨v, 1, none⟩ = some (.int .i64 o.i)))
              case atStart => exact ⟨0, rfl, hid (by omega), hid (Nat.zero_le _), HT9, HZ9⟩
              case round =>
                obtain ⟨q, rfl, hgq, hq, hT10, hz10⟩ := hrel
                clear HT9 HZ9
                rcases Nat.lt_or_ge q (m + 2) with hql | hqg
                · have q3 : decide ((q : Int) - 1 ≤ (m : Int)) = true := by simp; omega
                  have wq : Hid (wrap64 ((q : Int) - 1 + 1) = ((q + 1 : Nat) : Int) - 1) := hid (by have := HK0.out; unfold wrap64; omega)
                  have HQL := hid hql
                  generalize hii : (q : Int) - 1 = ii at *
                  clear hii hql
                  obtain ⟨F, hd, -, -, -⟩ := hT10.out.one
                  have hc := read_any wr F g s' hd ii
                  clear hd
                  as_aux_lemma =>
                  go_wp2_with fail
                  refine hc.mono ?_
                  rintro e w11 ⟨A8, n8, c8, rfl, ho8, hn8, hb8⟩
                  have hX8 : ∀ x, A8.map (·.block) = some x → wr.heap.size ≤ x ∧ x < w11.heap.size := fun x hx => by
                    rcases ho8.2 with ⟨hv, _⟩ | ⟨q, cap, cur, hv, hbq, hg, _⟩
                    · injection hv with hA; subst hA; cases hx
                    · injection hv with hA; subst hA; simp at hx; subst hx; exact ⟨hbq, (Array.getElem?_eq_some_iff.1 hg).1⟩
                  have HT11 : Hid (Twin w w11 g ge s' s' (fun x => x = v ∨ A8.map (·.block) = some x)) := hid (hT10.out.add hb8 _ hX8)
                  have HZ11 : Hid (w11.cell? ⟨v, 1, none⟩ = some (.int .i64 o.i)) := hid ((World.cell?_of_block (hb8.block v (block_lt0 hz10.out))).trans hz10.out)
                  have hcv := run_conv (c := c8) (Bts.own (l := rdB s' ii) ho8)
                  have HL8 : Hid ((rdB s' ii).length = n8) := hid (Bts.own (l := rdB s' ii) ho8).len
                  have HO8 := hid ho8
                  have HN8 := hid hn8
                  have HVL8 : Hid (v < wr.heap.size) := hid (block_lt0 hz10.out)
                  obtain ⟨G, hd, -, -, -⟩ := HT11.out.two
                  have hc := rread_any w11 G ge s' hd ii WL7.out
                  clear hd ho8 hn8 hb8 hX8 hT10 hz10
                  go_wp2_with fail
                  refine hc.mono ?_
                  rintro e w' ⟨rfl, rfl⟩
                  clear hc
                  generalize rdB s' ii = z8 at *
                  generalize rdE s' ii = e8 at *
                  generalize wr.heap.size = base8 at *
                  have hse2 : ((str z8).toList == (str z8).toList) = true := by simp
                  have hee : (e8 != e8) = false := by simp
                  go_wp2_with fail
                  go_loopg [180] n8 (fun k iv wr' => ∃ (p : Nat) (zs : List UInt8), iv = .int .i64 (p : Int) ∧ Hid (k = n8 - p) ∧ Hid (p ≤ n8) ∧ Hid (zs.length = n8) ∧ Hid (wr'.ownsRow base8 5 1 (.slice A8 n8 c8) n8 (bs zs)) ∧ Hid (Twin w wr' g ge s' s' (fun x => x = v ∨ A8.map (·.block) = some x)) ∧ Hid (wr'.cell? ⟨v, 1, none⟩ = some (.int .i64 o.i)))
                  case atStart => exact ⟨0, z8, rfl, hid (by omega), hid (Nat.zero_le _), HL8, HO8, HT11, HZ11⟩
                  case round =>
                    obtain ⟨p, zs, rfl, hgp, hp, hzs, hzo, hzT, hz1⟩ := hrel
                    clear HL8 HO8 HT11 HZ11 hcv
                    rcases Nat.lt_or_ge p n8 with hpl | hpg
                    · as_aux_lemma =>
                      obtain ⟨ab, bb, rfl, hab, a1, a2, hst⟩ := inv_own hzo.out hzs.out hpl
                      have q1 : (0 : Int) ≤ (p : Int) := by omega
                      have q2 : (p : Int) < (n8 : Int) := by omega
                      have q3 : decide ((p : Int) < (n8 : Int)) = true := by simpa using hpl
                      have q4 : decide (p < n8) = true := by simpa using hpl
                      have wp : wrap64 ((p : Int) + 1) = ((p + 1 : Nat) : Int) := by have := HN8.out; clear wq; unfold wrap64; omega
                      have xq := xor255 bb
                      have HST := hid (hst (255 - bb))
                      have HTS := hid (hzT.out.set (.inr rfl) p (.int .u8 ((255 - bb).toNat : Int)))
                      have HCS : Hid ((wr.setCell ⟨ab, p, none⟩ (.int .u8 ((255 - bb).toNat : Int))).cell? ⟨v, 1, none⟩ = some (.int .i64 o.i)) := hid ((World.cell?_of_block ((grown_setCell wr ab p _).block v (by have := hzT.out.lt (.inl rfl); exact this) (fun e => by injection e with e; have := HVL8.out; omega))).trans hz1.out)
                      have HLS : Hid ((zs.set p (255 - bb)).length = n8) := hid (by simpa using hzs.out)
                      clear hst hab hzo hzT hz1 hzs
                      go_wp2
                      go_roundg (n8 - (p + 1))
                      case measure => have := hgp.out; omega
                      case rel => exact ⟨p + 1, zs.set p (255 - bb), congrArg (Value.int .i64) (by first | exact wp | omega | rfl), hid rfl, hid (by omega), HLS, HST, HTS, HCS⟩
                    · as_aux_lemma =>
                      have q3' : decide ((p : Int) < (n8 : Int)) = false := by simp; omega
                      have q4 : decide (p < n8) = false := by simp; omega
                      have HT12 : Hid (Twin w wr g ge s' s' (fun x => x = v)) := hid (hzT.out.less (fun x hx => .inl hx))
                      clear hzs hzo hgp hp hpg hzT
                      have wq' := wq.out
                      go_wp2
                      go_roundg (m + 2 - (q + 1))
                      case measure => have := hgq.out; have := HQL.out; omega
                      case rel => exact ⟨q + 1, congrArg (Value.int .i64) (by first | exact wq' | omega | rfl), hid rfl, hid (by have := HQL.out; omega), HT12, hz1⟩
                · have q3 : decide ((q : Int) - 1 ≤ (m : Int)) = false := by simp; omega
                  clear hgq hq hqg
                  have z10 := hz10.out
                  have HIR := hid z10
                  obtain ⟨F, hd, -, -, -⟩ := hT10.out.one
                  have hc := read_any wr F g s' hd o.i
                  clear hd hz10
                  as_aux_lemma =>
                  go_wp2_with fail
                  refine hc.mono ?_
                  rintro e w11 ⟨A8, n8, c8, rfl, ho8, hn8, hb8⟩
                  have HT11 : Hid (Twin w w11 g ge s' s' (fun x => x = v)) := hid (hT10.out.bel hb8)
                  have z11 : w11.cell? ⟨v, 1, none⟩ = some (.int .i64 o.i) := (World.cell?_of_block (hb8.block v (block_lt0 HIR.out))).trans HIR.out
                  have hcv := run_conv (c := c8) (Bts.own (l := rdB s' o.i) ho8)
                  obtain ⟨G, hd, -, -, -⟩ := HT11.out.two
                  have hc := rread_any w11 G ge s' hd o.i WL7.out
                  clear hd ho8 hn8 hb8 hT10 z10 HIR
                  go_wp2_with fail
                  refine hc.mono ?_
                  rintro e w' ⟨rfl, rfl⟩
                  clear hc
                  generalize rdB s' o.i = z8 at *
                  generalize rdE s' o.i = e8 at *
                  have hse2 : ((str z8).toList == (str z8).toList) = true := by simp
                  have hee : (e8 != e8) = false := by simp
                  go_wp2
                  go_roundg (n - (j + 1))
                  case measure => have := hgk.out; have := HLT.out; omega
                  case rel => exact ⟨j + 1, s', congrArg (Value.int .i64) (by first | exact wj | omega | rfl), hid rfl, hid (by have := HLT.out; omega), hid (by have := HJ.out; omega), hn7, hW7, hid (HT11.out.less (fun x hx => hx.elim))⟩
    · have j3 : decide ((j : Int) < (n : Int)) = false := by simp; omega
      have j4 : decide (j < n) = false := by simp; omega
      have HBL := hid (HBK.out wr _ hT.out)
      clear HBK
      as_aux_lemma =>
      go_wp2_with fail
      refine HBL.out.mono ?_
      rintro e w' ⟨rfl, rfl⟩
      go_wp2
      go_ret
      exact ⟨rfl, hT.out.below⟩

theorem walkDevicePlays (z0 : Int) (a1 : Option Addr) (n1 c1 : Nat) (w : World) (_ : (Lit.int IntKind.i64 z0).wf = true) (w1 : Ops w w.heap.size a1 n1 ∧ n1 ≤ 9223372036854775807) :
    Calls Try.prog 3 #[.int .i64 z0, .slice a1 n1 c1] w fun e w' => e = .returned (.bool true) ∧ Below w.heap.size w w' := plays_core z0 a1 n1 c1 w w1.1 w1.2
end Go.Proofs.Ytdgcoipflenlgaa
