/- The walk of RootPlays: for every input the law answers true. -/
import Derived.Test.YtocmgdhgimpfhaaRtPl
import Derived.Test.YtocmgdhgimpfhaaFrameR
import Derived.Deep.LoopGhost
import Derived.Deep.DeepCutAuto
import Derived.Deep.CutBlock
namespace Go.Proofs.Ytocmgdhgimpfhaa
open Go.RowKit

theorem opr_cells {wr : World} {g : Nat} {o : OpR} (h : Blk wr g 47 #[.int .i64 o.kind, .int .i64 o.i, .int .i64 o.fr, .slice o.BA o.Bn o.Bc, .slice o.KA o.Kn o.Kc]) : wr.cell? ⟨g, 0, none⟩ = some (.int .i64 o.kind) ∧ wr.cell? ⟨g, 1, none⟩ = some (.int .i64 o.i) ∧ wr.cell? ⟨g, 2, none⟩ = some (.int .i64 o.fr) ∧ wr.cell? ⟨g, 3, none⟩ = some (.slice o.BA o.Bn o.Bc) ∧ wr.cell? ⟨g, 4, none⟩ = some (.slice o.KA o.Kn o.Kc) :=
  ⟨(h.cell 0).trans rfl, (h.cell 1).trans rfl, (h.cell 2).trans rfl, (h.cell 3).trans rfl, (h.cell 4).trans rfl⟩
theorem Try.infoOpR : (Try.prog.info? 47).map (·.size) = some 5 := by kernel_rfl
theorem kmod5 (i : Int) : ∃ k : Nat, k < 5 ∧ wrap64 (1 + wrap64 ((IntKind.u64.wrap i).tmod 5)) = ((k + 1 : Nat) : Int) ∧ wrap64 ((IntKind.u64.wrap i).tmod 5) = (k : Int) ∧ wrap64 (1 + (k : Int)) = ((k + 1 : Nat) : Int) := by
  obtain ⟨k, h1, h2⟩ := kmod i 5 (by decide) (by decide)
  rw [show ((5 : Nat) : Int) = 5 from rfl] at h2
  have h3 : wrap64 (1 + (k : Int)) = ((k + 1 : Nat) : Int) := by clear h2; unfold wrap64; omega
  exact ⟨k, h1, by rw [h2, h3], h2, h3⟩

set_option maxRecDepth 100000 in
set_option maxHeartbeats 16000000 in
theorem rplays_core (bl : Int) (A : Option Addr) (n c : Nat) (w : World) (hops : OpsR w w.heap.size A n) (hn : n ≤ 9223372036854775807) :
    Calls Try.prog 3 #[.int .i64 bl, .slice A n c] w fun e w' => e = .returned (.bool true) ∧ Below w.heap.size w w' := by
  obtain ⟨k0, hk0, hkw, hkw2, hkw3⟩ := kmod5 bl
  have HK0 : Hid (k0 + 1 ≤ 5) := hid (by omega)
  have HK1 : Hid (1 ≤ k0 + 1) := hid (by omega)
  have HOPS := hid hops
  have HN := hid hn
  clear hops hn hk0
  generalize k0 + 1 = m at *
  rw [hkw2] at hkw
  go_enter Try.func3, Try.ntmps3
  go_wp2_with fail
  refine (rtfirst_c w).mono ?_
  rintro e w1 ⟨rfl, hb1⟩
  have HB1 := hid hb1
  clear hb1
  go_wp2_with fail
  try rw [hkw]
  refine (dnew_onX w w1 HB1.out m HK1.out (by have := HK0.out; omega) (fun _ => False) (fun x hx => hx.elim)).mono ?_
  rintro e w2 ⟨gd, rfl, hv2, -⟩
  have HV2 := hid hv2
  clear hv2 HB1
  go_wp2_with fail
  refine (vnew_on HV2.out).mono ?_
  rintro e w3 ⟨gv, rfl, hv3, -⟩
  have HV3 := hid (tc_new hv3).1
  clear hv3 HV2
  go_wp2_with fail
  generalize w3.heap.size = gc at *
  generalize w3.alloc (.cells #[.int .i64 0, .int .i64 0] 33) = w3' at *
  refine (rnew_c m w3' HK1.out (by have := HK0.out; omega)).mono ?_
  rintro e w4 ⟨ge, G4, rfl, hd4, hb4, hG4⟩
  have HV5 := hid (ab_new HV3.out hd4 hb4 hG4)
  clear hd4 hb4 hG4 HV3 hkw hkw2 hkw3
  go_wp2_with fail
  generalize w4.heap.size + 1 = gz at *
  generalize w4.heap.size = gw at *
  go_loopg [51] n (fun kk iv wr => ∃ (j : Nat) (d : St) (v : Va) (c : Ce), iv = .int .i64 (j : Int) ∧ Hid (kk = n - j) ∧ Hid (j ≤ n) ∧ Hid (j ≤ 60) ∧ Hid (On w (AB gd gv gc ge gw gz d v c d v c) wr (fun _ => False)) ∧ Hid (d.W.length ≤ j) ∧ Hid (v.L.length ≤ j) ∧ Hid (v.G = []) ∧ Hid (c.ver ≤ j) ∧ Hid (c.mark ≤ j))
  case atStart => exact ⟨0, _, _, _, rfl, hid (by omega), hid (Nat.zero_le _), hid (by decide), HV5, hid (Nat.le_refl _), hid (Nat.le_refl _), hid rfl, hid (Nat.le_refl _), hid (Nat.le_refl _)⟩
  case round =>
  obtain ⟨j, d, v, c, rfl, hgk, hj, hj60, hV, hW, hL, hG, hCV, hCM⟩ := hrel
  clear HV5
  rcases Nat.lt_or_ge j n with hlt | hge
  · have HLT := hid hlt
    obtain ⟨b, off, o, rfl, hbl, hR0, hO0⟩ := HOPS.out j hlt
    have HO := hid hO0
    have HR := hid (rangeAt_keep hR0 (hV.out.below.block b hbl))
    have j1 : (0 : Int) ≤ (j : Int) := by omega
    have j2 : (j : Int) < (n : Int) := by omega
    have j3 : decide ((j : Int) < (n : Int)) = true := by simpa using hlt
    have j4 : decide (j < n) = true := by simpa using hlt
    have wj : wrap64 ((j : Int) + 1) = ((j + 1 : Nat) : Int) := by have := HN.out; unfold wrap64; omega
    clear hR0 hO0 hbl
    have hbo : Below wr.heap.size wr (wr.alloc (.cells #[.int .i64 o.kind, .int .i64 o.i, .int .i64 o.fr, .slice o.BA o.Bn o.Bc, .slice o.KA o.Kn o.Kc] 47)) := (Below.refl _ _).alloc (Nat.le_refl _) _
    have HV2 : Hid (On w (AB gd gv gc ge gw gz d v c d v c) (wr.alloc (.cells #[.int .i64 o.kind, .int .i64 o.i, .int .i64 o.fr, .slice o.BA o.Bn o.Bc, .slice o.KA o.Kn o.Kc] 47)) (fun x => x = wr.heap.size)) := hid ((hV.out.add (AB.ok _ _ _ _ _ _ _ _ _ _ _ _) hbo (Y := fun x => x = wr.heap.size) (fun x hx => by subst hx; simp)).less (fun x hx => .inr hx))
    have HK2 := hid (Blk.new wr 47 #[.int .i64 o.kind, .int .i64 o.i, .int .i64 o.fr, .slice o.BA o.Bn o.Bc, .slice o.KA o.Kn o.Kc])
    clear hbo hV hlt
    as_aux_lemma =>
    go_upto_region 10 with (refine wpList_load_mid rfl 47 _ rfl b (off + j * 5) rfl [.int .i64 o.kind, .int .i64 o.i, .int .i64 o.fr, .slice o.BA o.Bn o.Bc, .slice o.KA o.Kn o.Kc] _ HR.out Try.underlying47 rfl Try.infoOpR ?_)
    generalize wr.alloc (.cells #[.int .i64 o.kind, .int .i64 o.i, .int .i64 o.fr, .slice o.BA o.Bn o.Bc, .slice o.KA o.Kn o.Kc] 47) = w2 at *
    generalize wr.heap.size = vb at *
    obtain ⟨x0, x1, x2, x3, x4⟩ := opr_cells HK2.out
    clear HR
    by_cases hbr : 60 ≤ j ∨ 300 < o.Bn ∨ 60 < o.Kn
    · have ht : decide ((60 : Int) ≤ (j : Int)) = true ∨ (decide ((60 : Int) ≤ (j : Int)) = false ∧ decide ((300 : Int) < (o.Bn : Int)) = true) ∨ (decide ((60 : Int) ≤ (j : Int)) = false ∧ decide ((300 : Int) < (o.Bn : Int)) = false ∧ decide ((60 : Int) < (o.Kn : Int)) = true) := by
        simp only [decide_eq_true_eq, decide_eq_false_iff_not]
        omega
      have HBX := hid HV2.out.below
      clear hbr
      rcases ht with e1 | ⟨e1, e2⟩ | ⟨e1, e2, e3⟩
      all_goals
        as_aux_lemma =>
        go_wp2_with fail
        refine (rtget_nil w2 ⟨gd, 0, none⟩ ⟨gv, 0, none⟩).mono ?_
        rintro e y1 ⟨rfl, rfl⟩
        go_wp2_with fail
        refine (rtput_nil1 w2 ⟨gv, 0, none⟩ ⟨gc, 0, none⟩).mono ?_
        rintro e y1 ⟨rfl, rfl⟩
        go_wp2_with fail
        refine (rtput_nil2 w2 ⟨gd, 0, none⟩ ⟨gc, 0, none⟩).mono ?_
        rintro e y1 ⟨rfl, rfl⟩
        go_wp2_with fail
        refine (cver_nil w2).mono ?_
        rintro e y1 ⟨rfl, rfl⟩
        go_wp2
        go_ret
        exact ⟨rfl, HBX.out⟩
    have e1 : decide ((60 : Int) ≤ (j : Int)) = false := by simp; omega
    have e2 : decide ((300 : Int) < (o.Bn : Int)) = false := by simp; omega
    have e3 : decide ((60 : Int) < (o.Kn : Int)) = false := by simp; omega
    have HJ : Hid (j < 60) := hid (by omega)
    clear hbr
    obtain ⟨kd, hkd, hkm⟩ := kmod0 o.kind 8 (by decide)
    rw [show ((8 : Nat) : Int) = 8 from rfl] at hkm
    have HWW : Hid (d.W.length ≤ 1000) := hid (by have := hW.out; have := HJ.out; omega)
    have HLL : Hid (v.L.length ≤ 1000) := hid (by have := hL.out; have := HJ.out; omega)
    have HGG : Hid (v.G.length ≤ 1000) := hid (by rw [hG.out]; decide)
    have HCV : Hid (c.ver ≤ 1000) := hid (by have := hCV.out; have := HJ.out; omega)
    have HBT : Hid (Bts w2 0 w.heap.size o.BA o.Bn o.l) := hid (HO.out.b.below HV2.out.below (Nat.le_refl _))
    have HKT : Hid (Lst w2 0 w.heap.size o.KA o.Kn (o.ks.map .bool)) := hid (HO.out.k.below HV2.out.below (Nat.le_refl _))
    have HKD := hid hkd
    clear hkd
    go_upto_block 2 with fail
    clear e1 e2 e3 x0 x1 x2 x3 x4
    go_cut [15, 16] (fun ev fv wx => ∃ (z : Int) (d' : St) (v' : Va) (c' : Ce), ev = .int .i64 z ∧ fv = .int .i64 z ∧ Hid (On w (AB gd gv gc ge gw gz d' v' c' d' v' c') wx (fun x => x = vb)) ∧ Hid (d'.W.length ≤ j + 1) ∧ Hid (v'.L.length ≤ j + 1) ∧ Hid (v'.G = []) ∧ Hid (c'.ver ≤ j + 1) ∧ Hid (c'.mark ≤ j + 1) ∧ Hid (Blk wx vb 47 #[.int .i64 o.kind, .int .i64 o.i, .int .i64 o.fr, .slice o.BA o.Bn o.Bc, .slice o.KA o.Kn o.Kc]))
    case first =>
      rcases (show kd = 0 ∨ kd = 1 ∨ kd = 2 ∨ kd = 3 ∨ kd = 4 ∨ kd = 5 ∨ kd = 6 ∨ kd = 7 by have := HKD.out; omega) with rfl | rfl | rfl | rfl | rfl | rfl | rfl | rfl
      all_goals clear HKD
      · as_aux_lemma =>
        go_wp2_with fail
        have K3 : Hid (Blk w2.drew vb 47 #[.int .i64 o.kind, .int .i64 o.i, .int .i64 o.fr, .slice o.BA o.Bn o.Bc, .slice o.KA o.Kn o.Kc]) := hid HK2.out
        have V3 := hid (HV2.out.go (AB.ok _ _ _ _ _ _ _ _ _ _ _ _) (wr' := w2.drew) ((Below.refl _ _).drew))
        have B3 : Hid (Bts w2.drew 0 w.heap.size o.BA o.Bn o.l) := hid (HBT.out.keep (fun _ _ _ => rfl))
        clear HV2 HK2 HBT
        refine wp_region_held_drew (S := fun wx => Blk wx vb 47 #[.int .i64 o.kind, .int .i64 o.i, .int .i64 o.fr, .slice o.BA o.Bn o.Bc, .slice o.KA o.Kn o.Kc] ∧ Bts wx 0 w.heap.size o.BA o.Bn o.l) (by kernel_rfl) ⟨K3.out, B3.out⟩ (fun HS => ?_)
        generalize w2.drew = w3 at *
        refine wpAnyH_take (i := 0) (oi := ?oia0) (v := ?va0) ?hia0 (by kernel_rfl) (by kernel_rfl) (by kernel_rfl) ?hQa0 ?hya0 HS ?resta0
        case hia0 => simp only [List.getElem?_toArray, List.getElem?_cons_zero]; exact rfl
        case hQa0 => exact fun _ _ _ h => h
        case hya0 =>
          refine Or.inl ⟨by rfl, ?_⟩
          intro wS hSw
          go_simp
          try with_reducible rfl
        try simp only [Act.put, List.setIfInBounds_toArray, List.set_cons_zero, List.set_cons_succ]
        refine wpAnyH_take (i := 1) (oi := ?oia1) (v := ?va1) ?hia1 (by kernel_rfl) (by kernel_rfl) (by kernel_rfl) ?hQa1 ?hya1 HS ?resta1
        case hia1 => simp only [List.getElem?_toArray, List.getElem?_cons_succ, List.getElem?_cons_zero]; exact rfl
        case hQa1 => exact fun _ _ _ h => h
        case hya1 =>
          refine Or.inl ⟨by rfl, ?_⟩
          intro wS hSw
          go_simp
          try with_reducible rfl
        try simp only [Act.put, List.setIfInBounds_toArray, List.set_cons_zero, List.set_cons_succ]
        refine wpAnyH_take (i := 2) (oi := ?oia2) (v := ?va2) ?hia2 (by kernel_rfl) (by kernel_rfl) (by kernel_rfl) ?hQa2 ?hya2 HS ?resta2
        case hia2 => simp only [List.getElem?_toArray, List.getElem?_cons_succ, List.getElem?_cons_zero]; exact rfl
        case hQa2 => exact fun _ _ _ h => h
        case hya2 =>
          refine Or.inl ⟨by rfl, ?_⟩
          intro wS hSw
          go_simp
          try with_reducible rfl
        try simp only [Act.put, List.setIfInBounds_toArray, List.set_cons_zero, List.set_cons_succ]
        refine wpAnyH_take (i := 3) (oi := ?oia3) (v := ?va3) ?hia3 (by kernel_rfl) (by kernel_rfl) (by kernel_rfl) ?hQa3 ?hya3 HS ?resta3
        case hia3 => simp only [List.getElem?_toArray, List.getElem?_cons_succ, List.getElem?_cons_zero]; exact rfl
        case hQa3 => exact fun _ _ _ h => h
        case hya3 =>
          refine Or.inl ⟨by rfl, ?_⟩
          intro wS hSw
          obtain ⟨c0, c1, c2, c3, c4⟩ := opr_cells hSw.1
          go_simp
          try with_reducible rfl
        try simp only [Act.put, List.setIfInBounds_toArray, List.set_cons_zero, List.set_cons_succ]
        refine wpAnyH_take (i := 4) (oi := ?oia4) (v := ?va4) ?hia4 (by kernel_rfl) (by kernel_rfl) (by kernel_rfl) ?hQa4 ?hya4 HS ?resta4
        case hia4 => simp only [List.getElem?_toArray, List.getElem?_cons_succ, List.getElem?_cons_zero]; exact rfl
        case hQa4 => exact fun _ _ _ h => h
        case hya4 =>
          refine Or.inl ⟨by rfl, ?_⟩
          intro wS hSw
          obtain ⟨c0, c1, c2, c3, c4⟩ := opr_cells hSw.1
          go_simp
          try with_reducible rfl
        try simp only [Act.put, List.setIfInBounds_toArray, List.set_cons_zero, List.set_cons_succ]
        refine wpAnyH_take (i := 6) (oi := ?oia6) (v := ?va6) ?hia6 (by kernel_rfl) (by kernel_rfl) (by kernel_rfl) ?hQa6 ?hya6 HS ?resta6
        case hia6 => simp only [List.getElem?_toArray, List.getElem?_cons_succ, List.getElem?_cons_zero]; exact rfl
        case hQa6 => exact fun _ _ _ h => h
        case hya6 =>
          refine Or.inl ⟨by rfl, ?_⟩
          intro wS hSw
          go_simp
          try with_reducible rfl
        try simp only [Act.put, List.setIfInBounds_toArray, List.set_cons_zero, List.set_cons_succ]
        refine wpAnyH_take (i := 7) (oi := ?oia7) (v := ?va7) ?hia7 (by kernel_rfl) (by kernel_rfl) (by kernel_rfl) ?hQa7 ?hya7 HS ?resta7
        case hia7 => simp only [List.getElem?_toArray, List.getElem?_cons_succ, List.getElem?_cons_zero]; exact rfl
        case hQa7 => exact fun _ _ _ h => h
        case hya7 =>
          refine Or.inl ⟨by rfl, ?_⟩
          intro wS hSw
          go_simp
          try with_reducible rfl
        try simp only [Act.put, List.setIfInBounds_toArray, List.set_cons_zero, List.set_cons_succ]
        refine wpAnyH_take (i := 8) (oi := ?oia8) (v := ?va8) ?hia8 (by kernel_rfl) (by kernel_rfl) (by kernel_rfl) ?hQa8 ?hya8 HS ?resta8
        case hia8 => simp only [List.getElem?_toArray, List.getElem?_cons_succ, List.getElem?_cons_zero]; exact rfl
        case hQa8 => exact fun _ _ _ h => h
        case hya8 =>
          refine Or.inl ⟨by rfl, ?_⟩
          intro wS hSw
          go_simp
          try with_reducible rfl
        try simp only [Act.put, List.setIfInBounds_toArray, List.set_cons_zero, List.set_cons_succ]
        refine wpAnyH_take (i := 9) (oi := ?oia9) (v := ?va9) ?hia9 (by kernel_rfl) (by kernel_rfl) (by kernel_rfl) ?hQa9 ?hya9 HS ?resta9
        case hia9 => simp only [List.getElem?_toArray, List.getElem?_cons_succ, List.getElem?_cons_zero]; exact rfl
        case hQa9 => exact fun _ _ _ h => h
        case hya9 =>
          refine Or.inl ⟨by rfl, ?_⟩
          intro wS hSw
          obtain ⟨c0, c1, c2, c3, c4⟩ := opr_cells hSw.1
          go_simp
          try with_reducible rfl
        try simp only [Act.put, List.setIfInBounds_toArray, List.set_cons_zero, List.set_cons_succ]
        refine wpAnyH_take (i := 10) (oi := ?oia10) (v := ?va10) ?hia10 (by kernel_rfl) (by kernel_rfl) (by kernel_rfl) ?hQa10 ?hya10 HS ?resta10
        case hia10 => simp only [List.getElem?_toArray, List.getElem?_cons_succ, List.getElem?_cons_zero]; exact rfl
        case hQa10 => exact fun _ _ _ h => h
        case hya10 =>
          refine Or.inl ⟨by rfl, ?_⟩
          intro wS hSw
          obtain ⟨c0, c1, c2, c3, c4⟩ := opr_cells hSw.1
          go_simp
          try with_reducible rfl
        try simp only [Act.put, List.setIfInBounds_toArray, List.set_cons_zero, List.set_cons_succ]
        refine wpAnyH_take (i := 11) (oi := ?oia11) (v := ?va11) ?hia11 (by kernel_rfl) (by kernel_rfl) (by kernel_rfl) ?hQa11 ?hya11 HS ?resta11
        case hia11 => simp only [List.getElem?_toArray, List.getElem?_cons_succ, List.getElem?_cons_zero]; exact rfl
        case hQa11 => exact fun _ _ _ h => h
        case hya11 =>
          refine Or.inl ⟨by rfl, ?_⟩
          intro wS hSw
          have hcv := run_conv hSw.2 (c := o.Bc)
          go_simp
          try with_reducible rfl
        try simp only [Act.put, List.setIfInBounds_toArray, List.set_cons_zero, List.set_cons_succ]
        refine wpAnyH_ready (rs := [5]) (by kernel_rfl) (by simp) ?_
        refine AllReadyH.cons (o := ?oa5) ?hoa5 (fun K hK => ?stepa5) AllReadyH.nil
        case hoa5 => simp only [List.getElem?_toArray, List.getElem?_cons_succ, List.getElem?_cons_zero]; exact rfl
        go_simp
        refine (b_put V3.out o.BA o.Bn o.Bc o.l ((HO.out.b.below V3.out.below (Nat.le_refl _)).wide (Nat.le_refl _) V3.out.below.size) (Nat.le_trans HWW.out (by decide)) (Nat.le_trans HLL.out (by decide)) (Nat.le_trans HCV.out (by decide))).mono ?_
        rintro e w4 ⟨rfl, hv4, hk4⟩
        have V4 := hid hv4
        have K4 : Hid (Blk w4 vb 47 #[.int .i64 o.kind, .int .i64 o.i, .int .i64 o.fr, .slice o.BA o.Bn o.Bc, .slice o.KA o.Kn o.Kc]) := hid (K3.out.keep (hk4.2 vb rfl))
        have B4 : Hid (Bts w4 0 w.heap.size o.BA o.Bn o.l) := hid (HO.out.b.below hv4.below (Nat.le_refl _))
        clear hv4 hk4

        refine hK.out _ _ ⟨K4.out, B4.out⟩ (fun HS => ?_)
        clear hK K
        try simp only [Act.put, List.setIfInBounds_toArray, List.set_cons_zero, List.set_cons_succ]
        refine wpAnyH_ready (rs := [12]) (by kernel_rfl) (by simp) ?_
        refine AllReadyH.cons (o := ?oa12) ?hoa12 (fun K hK => ?stepa12) AllReadyH.nil
        case hoa12 => simp only [List.getElem?_toArray, List.getElem?_cons_succ, List.getElem?_cons_zero]; exact rfl
        go_simp
        refine (b_rput V4.out o.l (Nat.le_trans HWW.out (by decide)) (Nat.le_trans HLL.out (by decide)) (Nat.le_trans HGG.out (by decide)) (Nat.le_trans HCV.out (by decide))).mono ?_
        rintro e w5 ⟨rfl, hv5, hk5⟩
        have V5 := hid hv5
        have K5 : Hid (Blk w5 vb 47 #[.int .i64 o.kind, .int .i64 o.i, .int .i64 o.fr, .slice o.BA o.Bn o.Bc, .slice o.KA o.Kn o.Kc]) := hid (K4.out.keep (hk5.2 vb rfl))
        have B5 : Hid (Bts w5 0 w.heap.size o.BA o.Bn o.l) := hid (HO.out.b.below hv5.below (Nat.le_refl _))
        clear hv5 hk5

        refine hK.out _ _ ⟨K5.out, B5.out⟩ (fun HS => ?_)
        clear hK K
        try simp only [Act.put, List.setIfInBounds_toArray, List.set_cons_zero, List.set_cons_succ]
        refine wpAnyH_take (i := 13) (oi := ?oia13) (v := ?va13) ?hia13 (by kernel_rfl) (by kernel_rfl) (by kernel_rfl) ?hQa13 ?hya13 HS ?resta13
        case hia13 => simp only [List.getElem?_toArray, List.getElem?_cons_succ, List.getElem?_cons_zero]; exact rfl
        case hQa13 => exact fun _ _ _ h => h
        case hya13 =>
          refine Or.inl ⟨by rfl, ?_⟩
          intro wS hSw
          go_simp
          try with_reducible rfl
        try simp only [Act.put, List.setIfInBounds_toArray, List.set_cons_zero, List.set_cons_succ]
        refine wpAnyH_take (i := 14) (oi := ?oia14) (v := ?va14) ?hia14 (by kernel_rfl) (by kernel_rfl) (by kernel_rfl) ?hQa14 ?hya14 HS ?resta14
        case hia14 => simp only [List.getElem?_toArray, List.getElem?_cons_succ, List.getElem?_cons_zero]; exact rfl
        case hQa14 => exact fun _ _ _ h => h
        case hya14 =>
          refine Or.inl ⟨by rfl, ?_⟩
          intro wS hSw
          go_simp
          try with_reducible rfl
        try simp only [Act.put, List.setIfInBounds_toArray, List.set_cons_zero, List.set_cons_succ]
        refine wpAnyH_done (by kernel_rfl) ?_ _
        clear HS
        go_wp2_with fail
        go_meet
        case rel => exact ⟨_, _, _, _, rfl, rfl, V5, hid (by have h1 := hW.out; have h2 := ptD_W d v c o.l.length; omega), hid (by have h1 := hL.out; have h2 := (ptV_L d v c o.l).1; omega), hid ((ptV_L d v c o.l).2.trans hG.out), hid (by have h1 := hCV.out; have h2 := (ptC_ver d v c o.l.length).1; omega), hid (by have h1 := hCM.out; have h2 := (ptC_ver d v c o.l.length).2; have h3 := hL.out; omega), K5⟩
      · as_aux_lemma =>
        go_wp2_with fail
        go_meet
        case rel => exact ⟨0, d, v, c, rfl, rfl, HV2, hid (by have := hW.out; omega), hid (by have := hL.out; omega), hG, hid (by have := hCV.out; omega), hid (by have := hCM.out; omega), HK2⟩
      · as_aux_lemma =>
        obtain ⟨x0, x1, x2, x3, x4⟩ := opr_cells HK2.out
        go_wp2_with fail
        refine (b_limit HV2.out o.i HO.out.i1.2).mono ?_
        rintro e w4 ⟨rfl, hv4, hk4⟩
        have V4 := hid hv4
        have K4 := hid (HK2.out.keep (hk4.2 vb rfl))
        clear hv4 hk4 HV2 HK2 HBT x0 x1 x2 x3 x4
        obtain ⟨x0, x1, x2, x3, x4⟩ := opr_cells K4.out
        go_wp2_with fail
        refine (b_rbound V4.out o.i HO.out.i1.2).mono ?_
        rintro e w5 ⟨rfl, hv5, hk5⟩
        have V5 := hid hv5
        have K5 := hid (K4.out.keep (hk5.2 vb rfl))
        clear hv5 hk5 V4 K4 x0 x1 x2 x3 x4
        go_wp2_with fail
        go_meet
        case rel => exact ⟨0, _, v, c, rfl, rfl, V5, hid (show d.W.length ≤ _ by have := hW.out; omega), hid (by have := hL.out; omega), hG, hid (by have := hCV.out; omega), hid (by have := hCM.out; omega), K5⟩
      · as_aux_lemma =>
        obtain ⟨x0, x1, x2, x3, x4⟩ := opr_cells HK2.out
        go_wp2_with fail
        refine (b_crash HV2.out o.KA o.Kn o.Kc o.ks HKT.out (Nat.le_trans HWW.out (by decide))).mono ?_
        rintro e w4 ⟨rfl, hv4, hk4⟩
        have V4 := hid hv4
        have K4 := hid (HK2.out.keep (hk4.2 vb rfl))
        have HKT4 : Hid (Lst w4 0 w.heap.size o.KA o.Kn (o.ks.map .bool)) := hid (HO.out.k.below hv4.below (Nat.le_refl _))
        clear hv4 hk4 HV2 HK2 HBT HKT x0 x1 x2 x3 x4
        obtain ⟨x0, x1, x2, x3, x4⟩ := opr_cells K4.out
        go_wp2_with fail
        refine (b_rcrash V4.out o.KA o.Kn o.Kc o.ks HKT4.out (Nat.le_trans HWW.out (by decide))).mono ?_
        rintro e w5 ⟨rfl, hv5, hk5⟩
        have V5 := hid hv5
        have K5 := hid (K4.out.keep (hk5.2 vb rfl))
        clear hv5 hk5 V4 K4 HKT4 x0 x1 x2 x3 x4
        go_wp2_with fail
        go_meet
        case rel => exact ⟨0, _, v, c, rfl, rfl, V5, hid (Nat.zero_le _), hid (by have := hL.out; omega), hG, hid (by have := hCV.out; omega), hid (by have := hCM.out; omega), K5⟩
      · as_aux_lemma =>
        go_wp2_with fail
        have K3 : Hid (Blk w2.drew vb 47 #[.int .i64 o.kind, .int .i64 o.i, .int .i64 o.fr, .slice o.BA o.Bn o.Bc, .slice o.KA o.Kn o.Kc]) := hid HK2.out
        have V3 := hid (HV2.out.go (AB.ok _ _ _ _ _ _ _ _ _ _ _ _) (wr' := w2.drew) ((Below.refl _ _).drew))
        have B3 : Hid (Bts w2.drew 0 w.heap.size o.BA o.Bn o.l) := hid (HBT.out.keep (fun _ _ _ => rfl))
        clear HV2 HK2 HBT
        refine wp_region_held_drew (S := fun wx => Blk wx vb 47 #[.int .i64 o.kind, .int .i64 o.i, .int .i64 o.fr, .slice o.BA o.Bn o.Bc, .slice o.KA o.Kn o.Kc] ∧ Bts wx 0 w.heap.size o.BA o.Bn o.l) (by kernel_rfl) ⟨K3.out, B3.out⟩ (fun HS => ?_)
        generalize w2.drew = w3 at *
        refine wpAnyH_take (i := 0) (oi := ?oic0) (v := ?vc0) ?hic0 (by kernel_rfl) (by kernel_rfl) (by kernel_rfl) ?hQc0 ?hyc0 HS ?restc0
        case hic0 => simp only [List.getElem?_toArray, List.getElem?_cons_zero]; exact rfl
        case hQc0 => exact fun _ _ _ h => h
        case hyc0 =>
          refine Or.inl ⟨by rfl, ?_⟩
          intro wS hSw
          go_simp
          try with_reducible rfl
        try simp only [Act.put, List.setIfInBounds_toArray, List.set_cons_zero, List.set_cons_succ]
        refine wpAnyH_take (i := 1) (oi := ?oic1) (v := ?vc1) ?hic1 (by kernel_rfl) (by kernel_rfl) (by kernel_rfl) ?hQc1 ?hyc1 HS ?restc1
        case hic1 => simp only [List.getElem?_toArray, List.getElem?_cons_succ, List.getElem?_cons_zero]; exact rfl
        case hQc1 => exact fun _ _ _ h => h
        case hyc1 =>
          refine Or.inl ⟨by rfl, ?_⟩
          intro wS hSw
          obtain ⟨c0, c1, c2, c3, c4⟩ := opr_cells hSw.1
          go_simp
          try with_reducible rfl
        try simp only [Act.put, List.setIfInBounds_toArray, List.set_cons_zero, List.set_cons_succ]
        refine wpAnyH_take (i := 2) (oi := ?oic2) (v := ?vc2) ?hic2 (by kernel_rfl) (by kernel_rfl) (by kernel_rfl) ?hQc2 ?hyc2 HS ?restc2
        case hic2 => simp only [List.getElem?_toArray, List.getElem?_cons_succ, List.getElem?_cons_zero]; exact rfl
        case hQc2 => exact fun _ _ _ h => h
        case hyc2 =>
          refine Or.inl ⟨by rfl, ?_⟩
          intro wS hSw
          obtain ⟨c0, c1, c2, c3, c4⟩ := opr_cells hSw.1
          go_simp
          try with_reducible rfl
        try simp only [Act.put, List.setIfInBounds_toArray, List.set_cons_zero, List.set_cons_succ]
        refine wpAnyH_take (i := 3) (oi := ?oic3) (v := ?vc3) ?hic3 (by kernel_rfl) (by kernel_rfl) (by kernel_rfl) ?hQc3 ?hyc3 HS ?restc3
        case hic3 => simp only [List.getElem?_toArray, List.getElem?_cons_succ, List.getElem?_cons_zero]; exact rfl
        case hQc3 => exact fun _ _ _ h => h
        case hyc3 =>
          refine Or.inl ⟨by rfl, ?_⟩
          intro wS hSw
          obtain ⟨c0, c1, c2, c3, c4⟩ := opr_cells hSw.1
          go_simp
          try with_reducible rfl
        try simp only [Act.put, List.setIfInBounds_toArray, List.set_cons_zero, List.set_cons_succ]
        refine wpAnyH_take (i := 4) (oi := ?oic4) (v := ?vc4) ?hic4 (by kernel_rfl) (by kernel_rfl) (by kernel_rfl) ?hQc4 ?hyc4 HS ?restc4
        case hic4 => simp only [List.getElem?_toArray, List.getElem?_cons_succ, List.getElem?_cons_zero]; exact rfl
        case hQc4 => exact fun _ _ _ h => h
        case hyc4 =>
          refine Or.inl ⟨by rfl, ?_⟩
          intro wS hSw
          obtain ⟨c0, c1, c2, c3, c4⟩ := opr_cells hSw.1
          go_simp
          try with_reducible rfl
        try simp only [Act.put, List.setIfInBounds_toArray, List.set_cons_zero, List.set_cons_succ]
        refine wpAnyH_take (i := 6) (oi := ?oic6) (v := ?vc6) ?hic6 (by kernel_rfl) (by kernel_rfl) (by kernel_rfl) ?hQc6 ?hyc6 HS ?restc6
        case hic6 => simp only [List.getElem?_toArray, List.getElem?_cons_succ, List.getElem?_cons_zero]; exact rfl
        case hQc6 => exact fun _ _ _ h => h
        case hyc6 =>
          refine Or.inl ⟨by rfl, ?_⟩
          intro wS hSw
          go_simp
          try with_reducible rfl
        try simp only [Act.put, List.setIfInBounds_toArray, List.set_cons_zero, List.set_cons_succ]
        refine wpAnyH_take (i := 7) (oi := ?oic7) (v := ?vc7) ?hic7 (by kernel_rfl) (by kernel_rfl) (by kernel_rfl) ?hQc7 ?hyc7 HS ?restc7
        case hic7 => simp only [List.getElem?_toArray, List.getElem?_cons_succ, List.getElem?_cons_zero]; exact rfl
        case hQc7 => exact fun _ _ _ h => h
        case hyc7 =>
          refine Or.inl ⟨by rfl, ?_⟩
          intro wS hSw
          obtain ⟨c0, c1, c2, c3, c4⟩ := opr_cells hSw.1
          go_simp
          try with_reducible rfl
        try simp only [Act.put, List.setIfInBounds_toArray, List.set_cons_zero, List.set_cons_succ]
        refine wpAnyH_take (i := 8) (oi := ?oic8) (v := ?vc8) ?hic8 (by kernel_rfl) (by kernel_rfl) (by kernel_rfl) ?hQc8 ?hyc8 HS ?restc8
        case hic8 => simp only [List.getElem?_toArray, List.getElem?_cons_succ, List.getElem?_cons_zero]; exact rfl
        case hQc8 => exact fun _ _ _ h => h
        case hyc8 =>
          refine Or.inl ⟨by rfl, ?_⟩
          intro wS hSw
          obtain ⟨c0, c1, c2, c3, c4⟩ := opr_cells hSw.1
          go_simp
          try with_reducible rfl
        try simp only [Act.put, List.setIfInBounds_toArray, List.set_cons_zero, List.set_cons_succ]
        refine wpAnyH_take (i := 9) (oi := ?oic9) (v := ?vc9) ?hic9 (by kernel_rfl) (by kernel_rfl) (by kernel_rfl) ?hQc9 ?hyc9 HS ?restc9
        case hic9 => simp only [List.getElem?_toArray, List.getElem?_cons_succ, List.getElem?_cons_zero]; exact rfl
        case hQc9 => exact fun _ _ _ h => h
        case hyc9 =>
          refine Or.inl ⟨by rfl, ?_⟩
          intro wS hSw
          obtain ⟨c0, c1, c2, c3, c4⟩ := opr_cells hSw.1
          go_simp
          try with_reducible rfl
        try simp only [Act.put, List.setIfInBounds_toArray, List.set_cons_zero, List.set_cons_succ]
        refine wpAnyH_take (i := 10) (oi := ?oic10) (v := ?vc10) ?hic10 (by kernel_rfl) (by kernel_rfl) (by kernel_rfl) ?hQc10 ?hyc10 HS ?restc10
        case hic10 => simp only [List.getElem?_toArray, List.getElem?_cons_succ, List.getElem?_cons_zero]; exact rfl
        case hQc10 => exact fun _ _ _ h => h
        case hyc10 =>
          refine Or.inl ⟨by rfl, ?_⟩
          intro wS hSw
          obtain ⟨c0, c1, c2, c3, c4⟩ := opr_cells hSw.1
          go_simp
          try with_reducible rfl
        try simp only [Act.put, List.setIfInBounds_toArray, List.set_cons_zero, List.set_cons_succ]
        refine wpAnyH_take (i := 11) (oi := ?oic11) (v := ?vc11) ?hic11 (by kernel_rfl) (by kernel_rfl) (by kernel_rfl) ?hQc11 ?hyc11 HS ?restc11
        case hic11 => simp only [List.getElem?_toArray, List.getElem?_cons_succ, List.getElem?_cons_zero]; exact rfl
        case hQc11 => exact fun _ _ _ h => h
        case hyc11 =>
          refine Or.inl ⟨by rfl, ?_⟩
          intro wS hSw
          have hcv := run_conv hSw.2 (c := o.Bc)
          go_simp
          try with_reducible rfl
        try simp only [Act.put, List.setIfInBounds_toArray, List.set_cons_zero, List.set_cons_succ]
        refine wpAnyH_ready (rs := [5]) (by kernel_rfl) (by simp) ?_
        refine AllReadyH.cons (o := ?oc5) ?hoc5 (fun K hK => ?stepc5) AllReadyH.nil
        case hoc5 => simp only [List.getElem?_toArray, List.getElem?_cons_succ, List.getElem?_cons_zero]; exact rfl
        go_simp
        refine (b_over V3.out o.i o.BA o.Bn o.Bc o.l ((HO.out.b.below V3.out.below (Nat.le_refl _)).wide (Nat.le_refl _) V3.out.below.size) (Nat.le_trans HWW.out (by decide))).mono ?_
        rintro e w4 ⟨rfl, hv4, hk4⟩
        have V4 := hid hv4
        have K4 : Hid (Blk w4 vb 47 #[.int .i64 o.kind, .int .i64 o.i, .int .i64 o.fr, .slice o.BA o.Bn o.Bc, .slice o.KA o.Kn o.Kc]) := hid (K3.out.keep (hk4.2 vb rfl))
        have B4 : Hid (Bts w4 0 w.heap.size o.BA o.Bn o.l) := hid (HO.out.b.below hv4.below (Nat.le_refl _))
        clear hv4 hk4

        refine hK.out _ _ ⟨K4.out, B4.out⟩ (fun HS => ?_)
        clear hK K
        try simp only [Act.put, List.setIfInBounds_toArray, List.set_cons_zero, List.set_cons_succ]
        refine wpAnyH_ready (rs := [12]) (by kernel_rfl) (by simp) ?_
        refine AllReadyH.cons (o := ?oc12) ?hoc12 (fun K hK => ?stepc12) AllReadyH.nil
        case hoc12 => simp only [List.getElem?_toArray, List.getElem?_cons_succ, List.getElem?_cons_zero]; exact rfl
        go_simp
        refine (b_rover V4.out o.i o.l (Nat.le_trans HWW.out (by decide))).mono ?_
        rintro e w5 ⟨rfl, hv5, hk5⟩
        have V5 := hid hv5
        have K5 : Hid (Blk w5 vb 47 #[.int .i64 o.kind, .int .i64 o.i, .int .i64 o.fr, .slice o.BA o.Bn o.Bc, .slice o.KA o.Kn o.Kc]) := hid (K4.out.keep (hk5.2 vb rfl))
        have B5 : Hid (Bts w5 0 w.heap.size o.BA o.Bn o.l) := hid (HO.out.b.below hv5.below (Nat.le_refl _))
        clear hv5 hk5

        refine hK.out _ _ ⟨K5.out, B5.out⟩ (fun HS => ?_)
        clear hK K
        try simp only [Act.put, List.setIfInBounds_toArray, List.set_cons_zero, List.set_cons_succ]
        refine wpAnyH_take (i := 13) (oi := ?oic13) (v := ?vc13) ?hic13 (by kernel_rfl) (by kernel_rfl) (by kernel_rfl) ?hQc13 ?hyc13 HS ?restc13
        case hic13 => simp only [List.getElem?_toArray, List.getElem?_cons_succ, List.getElem?_cons_zero]; exact rfl
        case hQc13 => exact fun _ _ _ h => h
        case hyc13 =>
          refine Or.inl ⟨by rfl, ?_⟩
          intro wS hSw
          go_simp
          try with_reducible rfl
        try simp only [Act.put, List.setIfInBounds_toArray, List.set_cons_zero, List.set_cons_succ]
        refine wpAnyH_take (i := 14) (oi := ?oic14) (v := ?vc14) ?hic14 (by kernel_rfl) (by kernel_rfl) (by kernel_rfl) ?hQc14 ?hyc14 HS ?restc14
        case hic14 => simp only [List.getElem?_toArray, List.getElem?_cons_succ, List.getElem?_cons_zero]; exact rfl
        case hQc14 => exact fun _ _ _ h => h
        case hyc14 =>
          refine Or.inl ⟨by rfl, ?_⟩
          intro wS hSw
          go_simp
          try with_reducible rfl
        try simp only [Act.put, List.setIfInBounds_toArray, List.set_cons_zero, List.set_cons_succ]
        refine wpAnyH_done (by kernel_rfl) ?_ _
        clear HS
        go_wp2_with fail
        go_meet
        case rel => exact ⟨_, _, v, c, rfl, rfl, V5, hid (by have h1 := hW.out; have h2 := ovS_W d o.i o.l; omega), hid (by have := hL.out; omega), hG, hid (by have := hCV.out; omega), hid (by have := hCM.out; omega), K5⟩
      · as_aux_lemma =>
        obtain ⟨x0, x1, x2, x3, x4⟩ := opr_cells HK2.out
        go_wp2_with fail
        refine (b_dread HV2.out o.fr).mono ?_
        rintro e w4 ⟨A4, n4, c4, rfl, ho4, -, hb4⟩
        have V4 := hid (HV2.out.go (AB.ok _ _ _ _ _ _ _ _ _ _ _ _) hb4)
        have K4 := hid (HK2.out.keep (hb4.block vb HK2.out.lt))
        have T4 := hid ((Bts.own ho4).wide (Nat.zero_le _) (Nat.le_refl _))
        clear ho4 hb4 HV2 HK2 HBT x0 x1 x2 x3 x4
        obtain ⟨x0, x1, x2, x3, x4⟩ := opr_cells K4.out
        go_wp2_with fail
        refine (b_rdread V4.out o.fr (Nat.le_trans HWW.out (by decide))).mono ?_
        rintro e w5 ⟨rfl, rfl⟩
        clear x0 x1 x2 x3 x4
        go_wp2_with fail
        have K3 : Hid (Blk w4.drew vb 47 #[.int .i64 o.kind, .int .i64 o.i, .int .i64 o.fr, .slice o.BA o.Bn o.Bc, .slice o.KA o.Kn o.Kc]) := hid K4.out
        have V3 := hid (V4.out.go (AB.ok _ _ _ _ _ _ _ _ _ _ _ _) (wr' := w4.drew) ((Below.refl _ _).drew))
        have T3 : Hid (Bts w4.drew 0 w4.drew.heap.size A4 n4 (rdB d o.fr)) := hid (T4.out.keep (fun _ _ _ => rfl))
        clear V4 K4 T4
        refine wp_region_held_drew (S := fun wx => Blk wx vb 47 #[.int .i64 o.kind, .int .i64 o.i, .int .i64 o.fr, .slice o.BA o.Bn o.Bc, .slice o.KA o.Kn o.Kc]) (by kernel_rfl) K3.out (fun HS => ?_)
        generalize w4.drew = w3 at *
        refine wpAnyH_take (i := 0) (oi := ?oie0) (v := ?ve0) ?hie0 (by kernel_rfl) (by kernel_rfl) (by kernel_rfl) ?hQe0 ?hye0 HS ?reste0
        case hie0 => simp only [List.getElem?_toArray, List.getElem?_cons_zero]; exact rfl
        case hQe0 => exact fun _ _ _ h => h
        case hye0 =>
          refine Or.inl ⟨by rfl, ?_⟩
          intro wS hSw
          go_simp
          try with_reducible rfl
        try simp only [Act.put, List.setIfInBounds_toArray, List.set_cons_zero, List.set_cons_succ]
        refine wpAnyH_take (i := 1) (oi := ?oie1) (v := ?ve1) ?hie1 (by kernel_rfl) (by kernel_rfl) (by kernel_rfl) ?hQe1 ?hye1 HS ?reste1
        case hie1 => simp only [List.getElem?_toArray, List.getElem?_cons_succ, List.getElem?_cons_zero]; exact rfl
        case hQe1 => exact fun _ _ _ h => h
        case hye1 =>
          refine Or.inl ⟨by rfl, ?_⟩
          intro wS hSw
          obtain ⟨c0, c1, c2, c3, c4⟩ := opr_cells hSw
          go_simp
          try with_reducible rfl
        try simp only [Act.put, List.setIfInBounds_toArray, List.set_cons_zero, List.set_cons_succ]
        refine wpAnyH_take (i := 2) (oi := ?oie2) (v := ?ve2) ?hie2 (by kernel_rfl) (by kernel_rfl) (by kernel_rfl) ?hQe2 ?hye2 HS ?reste2
        case hie2 => simp only [List.getElem?_toArray, List.getElem?_cons_succ, List.getElem?_cons_zero]; exact rfl
        case hQe2 => exact fun _ _ _ h => h
        case hye2 =>
          refine Or.inl ⟨by rfl, ?_⟩
          intro wS hSw
          obtain ⟨c0, c1, c2, c3, c4⟩ := opr_cells hSw
          go_simp
          try with_reducible rfl
        try simp only [Act.put, List.setIfInBounds_toArray, List.set_cons_zero, List.set_cons_succ]
        refine wpAnyH_take (i := 3) (oi := ?oie3) (v := ?ve3) ?hie3 (by kernel_rfl) (by kernel_rfl) (by kernel_rfl) ?hQe3 ?hye3 HS ?reste3
        case hie3 => simp only [List.getElem?_toArray, List.getElem?_cons_succ, List.getElem?_cons_zero]; exact rfl
        case hQe3 => exact fun _ _ _ h => h
        case hye3 =>
          refine Or.inl ⟨by rfl, ?_⟩
          intro wS hSw
          go_simp
          try with_reducible rfl
        try simp only [Act.put, List.setIfInBounds_toArray, List.set_cons_zero, List.set_cons_succ]
        refine wpAnyH_take (i := 5) (oi := ?oie5) (v := ?ve5) ?hie5 (by kernel_rfl) (by kernel_rfl) (by kernel_rfl) ?hQe5 ?hye5 HS ?reste5
        case hie5 => simp only [List.getElem?_toArray, List.getElem?_cons_succ, List.getElem?_cons_zero]; exact rfl
        case hQe5 => exact fun _ _ _ h => h
        case hye5 =>
          refine Or.inl ⟨by rfl, ?_⟩
          intro wS hSw
          go_simp
          try with_reducible rfl
        try simp only [Act.put, List.setIfInBounds_toArray, List.set_cons_zero, List.set_cons_succ]
        refine wpAnyH_take (i := 6) (oi := ?oie6) (v := ?ve6) ?hie6 (by kernel_rfl) (by kernel_rfl) (by kernel_rfl) ?hQe6 ?hye6 HS ?reste6
        case hie6 => simp only [List.getElem?_toArray, List.getElem?_cons_succ, List.getElem?_cons_zero]; exact rfl
        case hQe6 => exact fun _ _ _ h => h
        case hye6 =>
          refine Or.inl ⟨by rfl, ?_⟩
          intro wS hSw
          obtain ⟨c0, c1, c2, c3, c4⟩ := opr_cells hSw
          go_simp
          try with_reducible rfl
        try simp only [Act.put, List.setIfInBounds_toArray, List.set_cons_zero, List.set_cons_succ]
        refine wpAnyH_take (i := 7) (oi := ?oie7) (v := ?ve7) ?hie7 (by kernel_rfl) (by kernel_rfl) (by kernel_rfl) ?hQe7 ?hye7 HS ?reste7
        case hie7 => simp only [List.getElem?_toArray, List.getElem?_cons_succ, List.getElem?_cons_zero]; exact rfl
        case hQe7 => exact fun _ _ _ h => h
        case hye7 =>
          refine Or.inl ⟨by rfl, ?_⟩
          intro wS hSw
          obtain ⟨c0, c1, c2, c3, c4⟩ := opr_cells hSw
          go_simp
          try with_reducible rfl
        try simp only [Act.put, List.setIfInBounds_toArray, List.set_cons_zero, List.set_cons_succ]
        refine wpAnyH_take (i := 8) (oi := ?oie8) (v := ?ve8) ?hie8 (by kernel_rfl) (by kernel_rfl) (by kernel_rfl) ?hQe8 ?hye8 HS ?reste8
        case hie8 => simp only [List.getElem?_toArray, List.getElem?_cons_succ, List.getElem?_cons_zero]; exact rfl
        case hQe8 => exact fun _ _ _ h => h
        case hye8 =>
          refine Or.inl ⟨by rfl, ?_⟩
          intro wS hSw
          go_simp
          try with_reducible rfl
        try simp only [Act.put, List.setIfInBounds_toArray, List.set_cons_zero, List.set_cons_succ]
        refine wpAnyH_ready (rs := [4]) (by kernel_rfl) (by simp) ?_
        refine AllReadyH.cons (o := ?oe4) ?hoe4 (fun K hK => ?stepe4) AllReadyH.nil
        case hoe4 => simp only [List.getElem?_toArray, List.getElem?_cons_succ, List.getElem?_cons_zero]; exact rfl
        go_simp
        refine (b_over V3.out o.i A4 n4 c4 _ T3.out (Nat.le_trans HWW.out (by decide))).mono ?_
        rintro e w6 ⟨rfl, hv6, hk6⟩
        have V6 := hid hv6
        have K6 : Hid (Blk w6 vb 47 #[.int .i64 o.kind, .int .i64 o.i, .int .i64 o.fr, .slice o.BA o.Bn o.Bc, .slice o.KA o.Kn o.Kc]) := hid (K3.out.keep (hk6.2 vb rfl))
        have B6 : Hid (Bts w6 0 w.heap.size o.BA o.Bn o.l) := hid (HO.out.b.below hv6.below (Nat.le_refl _))
        clear hv6 hk6

        refine hK.out _ _ K6.out (fun HS => ?_)
        clear hK K
        try simp only [Act.put, List.setIfInBounds_toArray, List.set_cons_zero, List.set_cons_succ]
        refine wpAnyH_ready (rs := [9]) (by kernel_rfl) (by simp) ?_
        refine AllReadyH.cons (o := ?oe9) ?hoe9 (fun K hK => ?stepe9) AllReadyH.nil
        case hoe9 => simp only [List.getElem?_toArray, List.getElem?_cons_succ, List.getElem?_cons_zero]; exact rfl
        go_simp
        refine (b_rover V6.out o.i (rdB d o.fr) (Nat.le_trans HWW.out (by decide))).mono ?_
        rintro e w5 ⟨rfl, hv5, hk5⟩
        have V5 := hid hv5
        have K5 : Hid (Blk w5 vb 47 #[.int .i64 o.kind, .int .i64 o.i, .int .i64 o.fr, .slice o.BA o.Bn o.Bc, .slice o.KA o.Kn o.Kc]) := hid (K6.out.keep (hk5.2 vb rfl))
        have B5 : Hid (Bts w5 0 w.heap.size o.BA o.Bn o.l) := hid (HO.out.b.below hv5.below (Nat.le_refl _))
        clear hv5 hk5

        refine hK.out _ _ K5.out (fun HS => ?_)
        clear hK K
        try simp only [Act.put, List.setIfInBounds_toArray, List.set_cons_zero, List.set_cons_succ]
        refine wpAnyH_take (i := 10) (oi := ?oie10) (v := ?ve10) ?hie10 (by kernel_rfl) (by kernel_rfl) (by kernel_rfl) ?hQe10 ?hye10 HS ?reste10
        case hie10 => simp only [List.getElem?_toArray, List.getElem?_cons_succ, List.getElem?_cons_zero]; exact rfl
        case hQe10 => exact fun _ _ _ h => h
        case hye10 =>
          refine Or.inl ⟨by rfl, ?_⟩
          intro wS hSw
          go_simp
          try with_reducible rfl
        try simp only [Act.put, List.setIfInBounds_toArray, List.set_cons_zero, List.set_cons_succ]
        refine wpAnyH_take (i := 11) (oi := ?oie11) (v := ?ve11) ?hie11 (by kernel_rfl) (by kernel_rfl) (by kernel_rfl) ?hQe11 ?hye11 HS ?reste11
        case hie11 => simp only [List.getElem?_toArray, List.getElem?_cons_succ, List.getElem?_cons_zero]; exact rfl
        case hQe11 => exact fun _ _ _ h => h
        case hye11 =>
          refine Or.inl ⟨by rfl, ?_⟩
          intro wS hSw
          go_simp
          try with_reducible rfl
        try simp only [Act.put, List.setIfInBounds_toArray, List.set_cons_zero, List.set_cons_succ]
        refine wpAnyH_done (by kernel_rfl) ?_ _
        clear HS
        go_wp2_with fail
        go_meet
        case rel => exact ⟨_, _, v, c, rfl, rfl, V5, hid (by have h1 := hW.out; have h2 := ovS_W d o.i (rdB d o.fr); omega), hid (by have := hL.out; omega), hG, hid (by have := hCV.out; omega), hid (by have := hCM.out; omega), K5⟩
      · as_aux_lemma =>
        go_wp2_with fail
        have K3 : Hid (Blk w2.drew vb 47 #[.int .i64 o.kind, .int .i64 o.i, .int .i64 o.fr, .slice o.BA o.Bn o.Bc, .slice o.KA o.Kn o.Kc]) := hid HK2.out
        have V3 := hid (HV2.out.go (AB.ok _ _ _ _ _ _ _ _ _ _ _ _) (wr' := w2.drew) ((Below.refl _ _).drew))
        have B3 : Hid (Bts w2.drew 0 w.heap.size o.BA o.Bn o.l) := hid (HBT.out.keep (fun _ _ _ => rfl))
        clear HV2 HK2 HBT
        refine wp_region_held_drew (S := fun wx => Blk wx vb 47 #[.int .i64 o.kind, .int .i64 o.i, .int .i64 o.fr, .slice o.BA o.Bn o.Bc, .slice o.KA o.Kn o.Kc] ∧ Bts wx 0 w.heap.size o.BA o.Bn o.l) (by kernel_rfl) ⟨K3.out, B3.out⟩ (fun HS => ?_)
        generalize w2.drew = w3 at *
        refine wpAnyH_take (i := 0) (oi := ?oig0) (v := ?vg0) ?hig0 (by kernel_rfl) (by kernel_rfl) (by kernel_rfl) ?hQg0 ?hyg0 HS ?restg0
        case hig0 => simp only [List.getElem?_toArray, List.getElem?_cons_zero]; exact rfl
        case hQg0 => exact fun _ _ _ h => h
        case hyg0 =>
          refine Or.inl ⟨by rfl, ?_⟩
          intro wS hSw
          go_simp
          try with_reducible rfl
        try simp only [Act.put, List.setIfInBounds_toArray, List.set_cons_zero, List.set_cons_succ]
        refine wpAnyH_take (i := 1) (oi := ?oig1) (v := ?vg1) ?hig1 (by kernel_rfl) (by kernel_rfl) (by kernel_rfl) ?hQg1 ?hyg1 HS ?restg1
        case hig1 => simp only [List.getElem?_toArray, List.getElem?_cons_succ, List.getElem?_cons_zero]; exact rfl
        case hQg1 => exact fun _ _ _ h => h
        case hyg1 =>
          refine Or.inl ⟨by rfl, ?_⟩
          intro wS hSw
          obtain ⟨c0, c1, c2, c3, c4⟩ := opr_cells hSw.1
          go_simp
          try with_reducible rfl
        try simp only [Act.put, List.setIfInBounds_toArray, List.set_cons_zero, List.set_cons_succ]
        refine wpAnyH_take (i := 2) (oi := ?oig2) (v := ?vg2) ?hig2 (by kernel_rfl) (by kernel_rfl) (by kernel_rfl) ?hQg2 ?hyg2 HS ?restg2
        case hig2 => simp only [List.getElem?_toArray, List.getElem?_cons_succ, List.getElem?_cons_zero]; exact rfl
        case hQg2 => exact fun _ _ _ h => h
        case hyg2 =>
          refine Or.inl ⟨by rfl, ?_⟩
          intro wS hSw
          obtain ⟨c0, c1, c2, c3, c4⟩ := opr_cells hSw.1
          go_simp
          try with_reducible rfl
        try simp only [Act.put, List.setIfInBounds_toArray, List.set_cons_zero, List.set_cons_succ]
        refine wpAnyH_take (i := 3) (oi := ?oig3) (v := ?vg3) ?hig3 (by kernel_rfl) (by kernel_rfl) (by kernel_rfl) ?hQg3 ?hyg3 HS ?restg3
        case hig3 => simp only [List.getElem?_toArray, List.getElem?_cons_succ, List.getElem?_cons_zero]; exact rfl
        case hQg3 => exact fun _ _ _ h => h
        case hyg3 =>
          refine Or.inl ⟨by rfl, ?_⟩
          intro wS hSw
          obtain ⟨c0, c1, c2, c3, c4⟩ := opr_cells hSw.1
          go_simp
          try with_reducible rfl
        try simp only [Act.put, List.setIfInBounds_toArray, List.set_cons_zero, List.set_cons_succ]
        refine wpAnyH_take (i := 4) (oi := ?oig4) (v := ?vg4) ?hig4 (by kernel_rfl) (by kernel_rfl) (by kernel_rfl) ?hQg4 ?hyg4 HS ?restg4
        case hig4 => simp only [List.getElem?_toArray, List.getElem?_cons_succ, List.getElem?_cons_zero]; exact rfl
        case hQg4 => exact fun _ _ _ h => h
        case hyg4 =>
          refine Or.inl ⟨by rfl, ?_⟩
          intro wS hSw
          obtain ⟨c0, c1, c2, c3, c4⟩ := opr_cells hSw.1
          go_simp
          try with_reducible rfl
        try simp only [Act.put, List.setIfInBounds_toArray, List.set_cons_zero, List.set_cons_succ]
        refine wpAnyH_take (i := 6) (oi := ?oig6) (v := ?vg6) ?hig6 (by kernel_rfl) (by kernel_rfl) (by kernel_rfl) ?hQg6 ?hyg6 HS ?restg6
        case hig6 => simp only [List.getElem?_toArray, List.getElem?_cons_succ, List.getElem?_cons_zero]; exact rfl
        case hQg6 => exact fun _ _ _ h => h
        case hyg6 =>
          refine Or.inl ⟨by rfl, ?_⟩
          intro wS hSw
          go_simp
          try with_reducible rfl
        try simp only [Act.put, List.setIfInBounds_toArray, List.set_cons_zero, List.set_cons_succ]
        refine wpAnyH_take (i := 7) (oi := ?oig7) (v := ?vg7) ?hig7 (by kernel_rfl) (by kernel_rfl) (by kernel_rfl) ?hQg7 ?hyg7 HS ?restg7
        case hig7 => simp only [List.getElem?_toArray, List.getElem?_cons_succ, List.getElem?_cons_zero]; exact rfl
        case hQg7 => exact fun _ _ _ h => h
        case hyg7 =>
          refine Or.inl ⟨by rfl, ?_⟩
          intro wS hSw
          obtain ⟨c0, c1, c2, c3, c4⟩ := opr_cells hSw.1
          go_simp
          try with_reducible rfl
        try simp only [Act.put, List.setIfInBounds_toArray, List.set_cons_zero, List.set_cons_succ]
        refine wpAnyH_take (i := 8) (oi := ?oig8) (v := ?vg8) ?hig8 (by kernel_rfl) (by kernel_rfl) (by kernel_rfl) ?hQg8 ?hyg8 HS ?restg8
        case hig8 => simp only [List.getElem?_toArray, List.getElem?_cons_succ, List.getElem?_cons_zero]; exact rfl
        case hQg8 => exact fun _ _ _ h => h
        case hyg8 =>
          refine Or.inl ⟨by rfl, ?_⟩
          intro wS hSw
          obtain ⟨c0, c1, c2, c3, c4⟩ := opr_cells hSw.1
          go_simp
          try with_reducible rfl
        try simp only [Act.put, List.setIfInBounds_toArray, List.set_cons_zero, List.set_cons_succ]
        refine wpAnyH_take (i := 9) (oi := ?oig9) (v := ?vg9) ?hig9 (by kernel_rfl) (by kernel_rfl) (by kernel_rfl) ?hQg9 ?hyg9 HS ?restg9
        case hig9 => simp only [List.getElem?_toArray, List.getElem?_cons_succ, List.getElem?_cons_zero]; exact rfl
        case hQg9 => exact fun _ _ _ h => h
        case hyg9 =>
          refine Or.inl ⟨by rfl, ?_⟩
          intro wS hSw
          obtain ⟨c0, c1, c2, c3, c4⟩ := opr_cells hSw.1
          go_simp
          try with_reducible rfl
        try simp only [Act.put, List.setIfInBounds_toArray, List.set_cons_zero, List.set_cons_succ]
        refine wpAnyH_take (i := 10) (oi := ?oig10) (v := ?vg10) ?hig10 (by kernel_rfl) (by kernel_rfl) (by kernel_rfl) ?hQg10 ?hyg10 HS ?restg10
        case hig10 => simp only [List.getElem?_toArray, List.getElem?_cons_succ, List.getElem?_cons_zero]; exact rfl
        case hQg10 => exact fun _ _ _ h => h
        case hyg10 =>
          refine Or.inl ⟨by rfl, ?_⟩
          intro wS hSw
          obtain ⟨c0, c1, c2, c3, c4⟩ := opr_cells hSw.1
          go_simp
          try with_reducible rfl
        try simp only [Act.put, List.setIfInBounds_toArray, List.set_cons_zero, List.set_cons_succ]
        refine wpAnyH_take (i := 11) (oi := ?oig11) (v := ?vg11) ?hig11 (by kernel_rfl) (by kernel_rfl) (by kernel_rfl) ?hQg11 ?hyg11 HS ?restg11
        case hig11 => simp only [List.getElem?_toArray, List.getElem?_cons_succ, List.getElem?_cons_zero]; exact rfl
        case hQg11 => exact fun _ _ _ h => h
        case hyg11 =>
          refine Or.inl ⟨by rfl, ?_⟩
          intro wS hSw
          have hcv := run_conv hSw.2 (c := o.Bc)
          go_simp
          try with_reducible rfl
        try simp only [Act.put, List.setIfInBounds_toArray, List.set_cons_zero, List.set_cons_succ]
        refine wpAnyH_ready (rs := [5]) (by kernel_rfl) (by simp) ?_
        refine AllReadyH.cons (o := ?og5) ?hog5 (fun K hK => ?stepg5) AllReadyH.nil
        case hog5 => simp only [List.getElem?_toArray, List.getElem?_cons_succ, List.getElem?_cons_zero]; exact rfl
        go_simp
        refine (b_write V3.out o.i o.BA o.Bn o.Bc o.l (HO.out.b.below V3.out.below (Nat.le_refl _)) (Nat.le_trans HWW.out (by decide))).mono ?_
        rintro e w4 ⟨rfl, hv4, hk4⟩
        have V4 := hid hv4
        have K4 : Hid (Blk w4 vb 47 #[.int .i64 o.kind, .int .i64 o.i, .int .i64 o.fr, .slice o.BA o.Bn o.Bc, .slice o.KA o.Kn o.Kc]) := hid (K3.out.keep (hk4.2 vb rfl))
        have B4 : Hid (Bts w4 0 w.heap.size o.BA o.Bn o.l) := hid (HO.out.b.below hv4.below (Nat.le_refl _))
        clear hv4 hk4

        refine hK.out _ _ ⟨K4.out, B4.out⟩ (fun HS => ?_)
        clear hK K
        try simp only [Act.put, List.setIfInBounds_toArray, List.set_cons_zero, List.set_cons_succ]
        refine wpAnyH_ready (rs := [12]) (by kernel_rfl) (by simp) ?_
        refine AllReadyH.cons (o := ?og12) ?hog12 (fun K hK => ?stepg12) AllReadyH.nil
        case hog12 => simp only [List.getElem?_toArray, List.getElem?_cons_succ, List.getElem?_cons_zero]; exact rfl
        go_simp
        refine (b_rwrite V4.out o.i o.l (Nat.le_trans HWW.out (by decide))).mono ?_
        rintro e w5 ⟨rfl, hv5, hk5⟩
        have V5 := hid hv5
        have K5 : Hid (Blk w5 vb 47 #[.int .i64 o.kind, .int .i64 o.i, .int .i64 o.fr, .slice o.BA o.Bn o.Bc, .slice o.KA o.Kn o.Kc]) := hid (K4.out.keep (hk5.2 vb rfl))
        have B5 : Hid (Bts w5 0 w.heap.size o.BA o.Bn o.l) := hid (HO.out.b.below hv5.below (Nat.le_refl _))
        clear hv5 hk5

        refine hK.out _ _ ⟨K5.out, B5.out⟩ (fun HS => ?_)
        clear hK K
        try simp only [Act.put, List.setIfInBounds_toArray, List.set_cons_zero, List.set_cons_succ]
        refine wpAnyH_take (i := 13) (oi := ?oig13) (v := ?vg13) ?hig13 (by kernel_rfl) (by kernel_rfl) (by kernel_rfl) ?hQg13 ?hyg13 HS ?restg13
        case hig13 => simp only [List.getElem?_toArray, List.getElem?_cons_succ, List.getElem?_cons_zero]; exact rfl
        case hQg13 => exact fun _ _ _ h => h
        case hyg13 =>
          refine Or.inl ⟨by rfl, ?_⟩
          intro wS hSw
          go_simp
          try with_reducible rfl
        try simp only [Act.put, List.setIfInBounds_toArray, List.set_cons_zero, List.set_cons_succ]
        refine wpAnyH_take (i := 14) (oi := ?oig14) (v := ?vg14) ?hig14 (by kernel_rfl) (by kernel_rfl) (by kernel_rfl) ?hQg14 ?hyg14 HS ?restg14
        case hig14 => simp only [List.getElem?_toArray, List.getElem?_cons_succ, List.getElem?_cons_zero]; exact rfl
        case hQg14 => exact fun _ _ _ h => h
        case hyg14 =>
          refine Or.inl ⟨by rfl, ?_⟩
          intro wS hSw
          go_simp
          try with_reducible rfl
        try simp only [Act.put, List.setIfInBounds_toArray, List.set_cons_zero, List.set_cons_succ]
        refine wpAnyH_done (by kernel_rfl) ?_ _
        clear HS
        go_wp2_with fail
        go_meet
        case rel => exact ⟨_, _, v, c, rfl, rfl, V5, hid (by have h1 := hW.out; have h2 := wrS_W d o.i o.l; omega), hid (by have := hL.out; omega), hG, hid (by have := hCV.out; omega), hid (by have := hCM.out; omega), K5⟩
      · as_aux_lemma =>
        obtain ⟨x0, x1, x2, x3, x4⟩ := opr_cells HK2.out
        go_wp2_with fail
        refine (b_seal HV2.out (Nat.le_trans HLL.out (by decide))).mono ?_
        rintro e w4 ⟨rfl, hv4, hk4⟩
        have V4 := hid hv4
        have K4 := hid (HK2.out.keep (hk4.2 vb rfl))
        clear hv4 hk4 HV2 HK2 HBT x0 x1 x2 x3 x4
        go_wp2_with fail
        refine (b_rseal V4.out (Nat.le_trans HGG.out (by decide)) (Nat.le_trans HLL.out (by decide))).mono ?_
        rintro e w5 ⟨rfl, hv5, hk5⟩
        have V5 := hid hv5
        have K5 := hid (K4.out.keep (hk5.2 vb rfl))
        clear hv5 hk5 V4 K4
        go_wp2_with fail
        go_meet
        case rel => exact ⟨0, d, _, c, rfl, rfl, V5, hid (by have := hW.out; omega), hid (by have h1 := hL.out; have h2 := (seS_L v k100 [] []).1; omega), hid ((seS_L v k100 [] []).2.trans hG.out), hid (by have := hCV.out; omega), hid (by have := hCM.out; omega), K5⟩
    case rest =>
    obtain ⟨z, d2, v2, c2, rfl, rfl, hV, hW2, hL2, hG2, hCV2, hCM2, hK⟩ := hcut
    clear HV2 HK2 HWW HLL HGG HCV HBT HKT hkm HKD
    as_aux_lemma =>
    obtain ⟨x0, x1, x2, x3, x4⟩ := opr_cells hK.out
    go_wp2_with fail
    refine (b_get hV.out (by have := hCV2.out; have := HJ.out; omega) (by have := hCM2.out; have := HJ.out; omega)).mono ?_
    rintro e w4 ⟨A4, n4, c4, rfl, ho4, -, hb4⟩
    have V4 := hid (hV.out.go (AB.ok _ _ _ _ _ _ _ _ _ _ _ _) hb4)
    have O4 := hid ho4
    clear ho4 hb4 hV hK x0 x1 x2 x3 x4
    go_wp2_with fail
    refine (b_rget V4.out (by have := hW2.out; have := HJ.out; omega) (by rw [hG2.out]; decide) (by have := hL2.out; have := HJ.out; omega) (by have := hCV2.out; have := HJ.out; omega) (by have := hCM2.out; have := HJ.out; omega)).mono ?_
    rintro e w5 ⟨rfl, hb5⟩
    have V5 := hid ((V4.out.go (AB.ok _ _ _ _ _ _ _ _ _ _ _ _) hb5).go (AB.ok _ _ _ _ _ _ _ _ _ _ _ _) (wr' := w5.drew) ((Below.refl _ _).drew))
    have ho5 : w5.drew.ownsRow _ 5 1 (.slice A4 n4 c4) n4 (bs (gtB d2 v2 c2)) := own_keep O4.out fun x hx => hb5.block x (own_lt O4.out x hx)
    have hcv := own_str ho5 (c := c4)
    have f0 := b_rver V5.out
    have hcw := b_ver V5.out
    clear ho5 hb5 O4 V4
    generalize gtB d2 v2 c2 = zs at *
    generalize gtE d2 v2 c2 = ze at *
    have HCV3 := hid (And.intro hCV2.out hCM2.out)
    obtain ⟨M, hM⟩ : ∃ M, c2.ver = M := ⟨_, rfl⟩
    rw [hM] at hcw f0
    have hn1 : (z != z) = false := by simp
    have hn2 : (ze != ze) = false := by simp
    have hn3 : ((M : Int) != (M : Int)) = false := by simp
    have hn4 : ((str zs).toList == (str zs).toList) = true := by simp
    clear hM
    go_wp2_with fail
    refine wp_region_held_drew (S := fun wx => wx = w5.drew) (by kernel_rfl) rfl (fun HS => ?_)
    generalize w5.drew = w9 at *
    refine wpAnyH_take (i := 0) (oi := ?oix0) (v := ?vx0) ?hix0 (by kernel_rfl) (by kernel_rfl) (by kernel_rfl) ?hQx0 ?hyx0 HS ?restx0
    case hix0 => simp only [List.getElem?_toArray, List.getElem?_cons_zero]; exact rfl
    case hQx0 => exact fun _ _ _ h => h
    case hyx0 =>
      refine Or.inl ⟨by rfl, ?_⟩
      intro wS hSw
      go_simp
      try with_reducible rfl
    try simp only [Act.put, List.setIfInBounds_toArray, List.set_cons_zero, List.set_cons_succ]
    refine wpAnyH_take (i := 1) (oi := ?oix1) (v := ?vx1) ?hix1 (by kernel_rfl) (by kernel_rfl) (by kernel_rfl) ?hQx1 ?hyx1 HS ?restx1
    case hix1 => simp only [List.getElem?_toArray, List.getElem?_cons_succ, List.getElem?_cons_zero]; exact rfl
    case hQx1 => exact fun _ _ _ h => h
    case hyx1 =>
      refine Or.inl ⟨by rfl, ?_⟩
      intro wS hSw
      go_simp
      try with_reducible rfl
    try simp only [Act.put, List.setIfInBounds_toArray, List.set_cons_zero, List.set_cons_succ]
    refine wpAnyH_take (i := 2) (oi := ?oix2) (v := ?vx2) ?hix2 (by kernel_rfl) (by kernel_rfl) (by kernel_rfl) ?hQx2 ?hyx2 HS ?restx2
    case hix2 => simp only [List.getElem?_toArray, List.getElem?_cons_succ, List.getElem?_cons_zero]; exact rfl
    case hQx2 => exact fun _ _ _ h => h
    case hyx2 =>
      refine Or.inl ⟨by rfl, ?_⟩
      intro wS hSw
      go_simp
      try with_reducible rfl
    try simp only [Act.put, List.setIfInBounds_toArray, List.set_cons_zero, List.set_cons_succ]
    refine wpAnyH_take (i := 3) (oi := ?oix3) (v := ?vx3) ?hix3 (by kernel_rfl) (by kernel_rfl) (by kernel_rfl) ?hQx3 ?hyx3 HS ?restx3
    case hix3 => simp only [List.getElem?_toArray, List.getElem?_cons_succ, List.getElem?_cons_zero]; exact rfl
    case hQx3 => exact fun _ _ _ h => h
    case hyx3 =>
      refine Or.inl ⟨by rfl, ?_⟩
      intro wS hSw
      go_simp
      try with_reducible rfl
    try simp only [Act.put, List.setIfInBounds_toArray, List.set_cons_zero, List.set_cons_succ]
    refine wpAnyH_take (i := 4) (oi := ?oix4) (v := ?vx4) ?hix4 (by kernel_rfl) (by kernel_rfl) (by kernel_rfl) ?hQx4 ?hyx4 HS ?restx4
    case hix4 => simp only [List.getElem?_toArray, List.getElem?_cons_succ, List.getElem?_cons_zero]; exact rfl
    case hQx4 => exact fun _ _ _ h => h
    case hyx4 =>
      refine Or.inl ⟨by rfl, ?_⟩
      intro wS hSw
      go_simp
      try with_reducible rfl
    try simp only [Act.put, List.setIfInBounds_toArray, List.set_cons_zero, List.set_cons_succ]
    refine wpAnyH_take (i := 5) (oi := ?oix5) (v := ?vx5) ?hix5 (by kernel_rfl) (by kernel_rfl) (by kernel_rfl) ?hQx5 ?hyx5 HS ?restx5
    case hix5 => simp only [List.getElem?_toArray, List.getElem?_cons_succ, List.getElem?_cons_zero]; exact rfl
    case hQx5 => exact fun _ _ _ h => h
    case hyx5 =>
      refine Or.inl ⟨by rfl, ?_⟩
      intro wS hSw
      subst hSw
      go_simp
      try with_reducible rfl
    try simp only [Act.put, List.setIfInBounds_toArray, List.set_cons_zero, List.set_cons_succ]
    refine wpAnyH_take (i := 6) (oi := ?oix6) (v := ?vx6) ?hix6 (by kernel_rfl) (by kernel_rfl) (by kernel_rfl) ?hQx6 ?hyx6 HS ?restx6
    case hix6 => simp only [List.getElem?_toArray, List.getElem?_cons_succ, List.getElem?_cons_zero]; exact rfl
    case hQx6 => exact fun _ _ _ h => h
    case hyx6 =>
      refine Or.inl ⟨by rfl, ?_⟩
      intro wS hSw
      go_simp
      try with_reducible rfl
    try simp only [Act.put, List.setIfInBounds_toArray, List.set_cons_zero, List.set_cons_succ]
    refine wpAnyH_take (i := 7) (oi := ?oix7) (v := ?vx7) ?hix7 (by kernel_rfl) (by kernel_rfl) (by kernel_rfl) ?hQx7 ?hyx7 HS ?restx7
    case hix7 => simp only [List.getElem?_toArray, List.getElem?_cons_succ, List.getElem?_cons_zero]; exact rfl
    case hQx7 => exact fun _ _ _ h => h
    case hyx7 =>
      refine Or.inl ⟨by rfl, ?_⟩
      intro wS hSw
      go_simp
      try with_reducible rfl
    try simp only [Act.put, List.setIfInBounds_toArray, List.set_cons_zero, List.set_cons_succ]
    refine wpAnyH_take (i := 8) (oi := ?oix8) (v := ?vx8) ?hix8 (by kernel_rfl) (by kernel_rfl) (by kernel_rfl) ?hQx8 ?hyx8 HS ?restx8
    case hix8 => simp only [List.getElem?_toArray, List.getElem?_cons_succ, List.getElem?_cons_zero]; exact rfl
    case hQx8 => exact fun _ _ _ h => h
    case hyx8 =>
      refine Or.inl ⟨by rfl, ?_⟩
      intro wS hSw
      go_simp
      try with_reducible rfl
    try simp only [Act.put, List.setIfInBounds_toArray, List.set_cons_zero, List.set_cons_succ]
    refine wpAnyH_take (i := 9) (oi := ?oix9) (v := ?vx9) ?hix9 (by kernel_rfl) (by kernel_rfl) (by kernel_rfl) ?hQx9 ?hyx9 HS ?restx9
    case hix9 => simp only [List.getElem?_toArray, List.getElem?_cons_succ, List.getElem?_cons_zero]; exact rfl
    case hQx9 => exact fun _ _ _ h => h
    case hyx9 =>
      refine Or.inl ⟨by rfl, ?_⟩
      intro wS hSw
      go_simp
      try with_reducible rfl
    try simp only [Act.put, List.setIfInBounds_toArray, List.set_cons_zero, List.set_cons_succ]
    refine wpAnyH_take (i := 10) (oi := ?oix10) (v := ?vx10) ?hix10 (by kernel_rfl) (by kernel_rfl) (by kernel_rfl) ?hQx10 ?hyx10 HS ?restx10
    case hix10 => simp only [List.getElem?_toArray, List.getElem?_cons_succ, List.getElem?_cons_zero]; exact rfl
    case hQx10 => exact fun _ _ _ h => h
    case hyx10 =>
      refine Or.inl ⟨by rfl, ?_⟩
      intro wS hSw
      go_simp
      try with_reducible rfl
    try simp only [Act.put, List.setIfInBounds_toArray, List.set_cons_zero, List.set_cons_succ]
    refine wpAnyH_take (i := 11) (oi := ?oix11) (v := ?vx11) ?hix11 (by kernel_rfl) (by kernel_rfl) (by kernel_rfl) ?hQx11 ?hyx11 HS ?restx11
    case hix11 => simp only [List.getElem?_toArray, List.getElem?_cons_succ, List.getElem?_cons_zero]; exact rfl
    case hQx11 => exact fun _ _ _ h => h
    case hyx11 =>
      refine Or.inl ⟨by rfl, ?_⟩
      intro wS hSw
      go_simp
      try with_reducible rfl
    try simp only [Act.put, List.setIfInBounds_toArray, List.set_cons_zero, List.set_cons_succ]
    refine wpAnyH_take (i := 12) (oi := ?oix12) (v := ?vx12) ?hix12 (by kernel_rfl) (by kernel_rfl) (by kernel_rfl) ?hQx12 ?hyx12 HS ?restx12
    case hix12 => simp only [List.getElem?_toArray, List.getElem?_cons_succ, List.getElem?_cons_zero]; exact rfl
    case hQx12 => exact fun _ _ _ h => h
    case hyx12 =>
      refine Or.inl ⟨by rfl, ?_⟩
      intro wS hSw
      go_simp
      try with_reducible rfl
    try simp only [Act.put, List.setIfInBounds_toArray, List.set_cons_zero, List.set_cons_succ]
    refine wpAnyH_take (i := 13) (oi := ?oix13) (v := ?vx13) ?hix13 (by kernel_rfl) (by kernel_rfl) (by kernel_rfl) ?hQx13 ?hyx13 HS ?restx13
    case hix13 => simp only [List.getElem?_toArray, List.getElem?_cons_succ, List.getElem?_cons_zero]; exact rfl
    case hQx13 => exact fun _ _ _ h => h
    case hyx13 =>
      refine Or.inl ⟨by rfl, ?_⟩
      intro wS hSw
      go_simp
      try with_reducible rfl
    try simp only [Act.put, List.setIfInBounds_toArray, List.set_cons_zero, List.set_cons_succ]
    refine wpAnyH_take (i := 14) (oi := ?oix14) (v := ?vx14) ?hix14 (by kernel_rfl) (by kernel_rfl) (by kernel_rfl) ?hQx14 ?hyx14 HS ?restx14
    case hix14 => simp only [List.getElem?_toArray, List.getElem?_cons_succ, List.getElem?_cons_zero]; exact rfl
    case hQx14 => exact fun _ _ _ h => h
    case hyx14 =>
      refine Or.inl ⟨by rfl, ?_⟩
      intro wS hSw
      go_simp
      try with_reducible rfl
    try simp only [Act.put, List.setIfInBounds_toArray, List.set_cons_zero, List.set_cons_succ]
    refine wpAnyH_take (i := 15) (oi := ?oix15) (v := ?vx15) ?hix15 (by kernel_rfl) (by kernel_rfl) (by kernel_rfl) ?hQx15 ?hyx15 HS ?restx15
    case hix15 => simp only [List.getElem?_toArray, List.getElem?_cons_succ, List.getElem?_cons_zero]; exact rfl
    case hQx15 => exact fun _ _ _ h => h
    case hyx15 =>
      refine Or.inl ⟨by rfl, ?_⟩
      intro wS hSw
      go_simp
      try with_reducible rfl
    try simp only [Act.put, List.setIfInBounds_toArray, List.set_cons_zero, List.set_cons_succ]
    refine wpAnyH_take (i := 17) (oi := ?oix17) (v := ?vx17) ?hix17 (by kernel_rfl) (by kernel_rfl) (by kernel_rfl) ?hQx17 ?hyx17 HS ?restx17
    case hix17 => simp only [List.getElem?_toArray, List.getElem?_cons_succ, List.getElem?_cons_zero]; exact rfl
    case hQx17 => exact fun _ _ _ h => h
    case hyx17 =>
      refine Or.inl ⟨by rfl, ?_⟩
      intro wS hSw
      go_simp
      try with_reducible rfl
    try simp only [Act.put, List.setIfInBounds_toArray, List.set_cons_zero, List.set_cons_succ]
    refine wpAnyH_take (i := 18) (oi := ?oix18) (v := ?vx18) ?hix18 (by kernel_rfl) (by kernel_rfl) (by kernel_rfl) ?hQx18 ?hyx18 HS ?restx18
    case hix18 => simp only [List.getElem?_toArray, List.getElem?_cons_succ, List.getElem?_cons_zero]; exact rfl
    case hQx18 => exact fun _ _ _ h => h
    case hyx18 =>
      refine Or.inl ⟨by rfl, ?_⟩
      intro wS hSw
      go_simp
      try with_reducible rfl
    try simp only [Act.put, List.setIfInBounds_toArray, List.set_cons_zero, List.set_cons_succ]
    refine wpAnyH_take (i := 19) (oi := ?oix19) (v := ?vx19) ?hix19 (by kernel_rfl) (by kernel_rfl) (by kernel_rfl) ?hQx19 ?hyx19 HS ?restx19
    case hix19 => simp only [List.getElem?_toArray, List.getElem?_cons_succ, List.getElem?_cons_zero]; exact rfl
    case hQx19 => exact fun _ _ _ h => h
    case hyx19 =>
      refine Or.inl ⟨by rfl, ?_⟩
      intro wS hSw
      go_simp
      try with_reducible rfl
    try simp only [Act.put, List.setIfInBounds_toArray, List.set_cons_zero, List.set_cons_succ]
    refine wpAnyH_take (i := 20) (oi := ?oix20) (v := ?vx20) ?hix20 (by kernel_rfl) (by kernel_rfl) (by kernel_rfl) ?hQx20 ?hyx20 HS ?restx20
    case hix20 => simp only [List.getElem?_toArray, List.getElem?_cons_succ, List.getElem?_cons_zero]; exact rfl
    case hQx20 => exact fun _ _ _ h => h
    case hyx20 =>
      refine Or.inl ⟨by rfl, ?_⟩
      intro wS hSw
      subst hSw
      go_simp
      try with_reducible rfl
    try simp only [Act.put, List.setIfInBounds_toArray, List.set_cons_zero, List.set_cons_succ]
    refine wpAnyH_ready (rs := [16]) (by kernel_rfl) (by simp) ?_
    refine AllReadyH.cons (o := ?ox16) ?hox16 (fun K hK => ?stepx16) AllReadyH.nil
    case hox16 => simp only [List.getElem?_toArray, List.getElem?_cons_succ, List.getElem?_cons_zero]; exact rfl
    go_simp
    refine hcw.mono ?_
    rintro e wa ⟨rfl, rfl⟩
    refine hK.out _ _ HS (fun HS => ?_)
    clear hK K
    try simp only [Act.put, List.setIfInBounds_toArray, List.set_cons_zero, List.set_cons_succ]
    refine wpAnyH_take (i := 21) (oi := ?oix21) (v := ?vx21) ?hix21 (by kernel_rfl) (by kernel_rfl) (by kernel_rfl) ?hQx21 ?hyx21 HS ?restx21
    case hix21 => simp only [List.getElem?_toArray, List.getElem?_cons_succ, List.getElem?_cons_zero]; exact rfl
    case hQx21 => exact fun _ _ _ h => h
    case hyx21 =>
      refine Or.inl ⟨by rfl, ?_⟩
      intro wS hSw
      go_simp
      try with_reducible rfl
    try simp only [Act.put, List.setIfInBounds_toArray, List.set_cons_zero, List.set_cons_succ]
    refine wpAnyH_take (i := 22) (oi := ?oix22) (v := ?vx22) ?hix22 (by kernel_rfl) (by kernel_rfl) (by kernel_rfl) ?hQx22 ?hyx22 HS ?restx22
    case hix22 => simp only [List.getElem?_toArray, List.getElem?_cons_succ, List.getElem?_cons_zero]; exact rfl
    case hQx22 => exact fun _ _ _ h => h
    case hyx22 =>
      refine Or.inl ⟨by rfl, ?_⟩
      intro wS hSw
      go_simp
      try with_reducible rfl
    try simp only [Act.put, List.setIfInBounds_toArray, List.set_cons_zero, List.set_cons_succ]
    refine wpAnyH_done (by kernel_rfl) ?_ _
    clear HS hcw f0 hcv hn1 hn2 hn3 hn4
    go_wp2_with fail
    go_roundg (n - (j + 1))
    case measure => have := hgk.out; have := HLT.out; omega
    case rel => exact ⟨j + 1, d2, v2, c2, congrArg (Value.int .i64) (by first | exact wj | omega | rfl), hid rfl, hid (by have := HLT.out; omega), hid (by have := HJ.out; omega), hid (V5.out.less (fun x hx => hx.elim)), hW2, hL2, hG2, hCV2, hCM2⟩
  · have j3 : decide ((j : Int) < (n : Int)) = false := by simp; omega
    have j4 : decide (j < n) = false := by simp; omega
    have HBX := hid hV.out.below
    clear hge hgk hj
    as_aux_lemma =>
    go_wp2_with fail
    refine (rtget_nil wr ⟨gd, 0, none⟩ ⟨gv, 0, none⟩).mono ?_
    rintro e y1 ⟨rfl, rfl⟩
    go_wp2_with fail
    refine (rtput_nil1 wr ⟨gv, 0, none⟩ ⟨gc, 0, none⟩).mono ?_
    rintro e y1 ⟨rfl, rfl⟩
    go_wp2_with fail
    refine (rtput_nil2 wr ⟨gd, 0, none⟩ ⟨gc, 0, none⟩).mono ?_
    rintro e y1 ⟨rfl, rfl⟩
    go_wp2_with fail
    refine (cver_nil wr).mono ?_
    rintro e y1 ⟨rfl, rfl⟩
    go_wp2
    go_ret
    exact ⟨rfl, HBX.out⟩

theorem walkRootPlays (a0 : Int) (a1 : Option Addr) (n1 c1 : Nat) (w : World) (_w0 : (Lit.int .i64 a0).wf = true) (w1 : OpsR w w.heap.size a1 n1 ∧ n1 ≤ 9223372036854775807) :
    Calls Try.prog 3 #[.int .i64 a0, .slice a1 n1 c1] w fun e w' => e = .returned (.bool true) ∧ Below w.heap.size w w' := rplays_core a0 a1 n1 c1 w w1.1 w1.2
end Go.Proofs.Ytocmgdhgimpfhaa
