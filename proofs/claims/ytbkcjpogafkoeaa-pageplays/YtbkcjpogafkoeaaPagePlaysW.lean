/- The walk of PagePlays: for every input the law answers true. -/
import Derived.Test.YtbkcjpogafkoeaaPgPl
import Derived.Test.YtbkcjpogafkoeaaPgFirst
import Derived.Test.YtbkcjpogafkoeaaFrameH
import Derived.Deep.LoopGhost
import Derived.Deep.DeepCutAuto
import Derived.Deep.CutBlock
namespace Go.Proofs.Ytbkcjpogafkoeaa
open Go.RowKit

theorem opg_cells {wr : World} {g : Nat} {o : OpG} (h : Blk wr g 45 #[.int .i64 (o).kind, .int .i64 (o).i, .int .i64 (o).fr, .int .i64 (o).p.k.t, .int .i64 (o).p.k.c, .int .i64 (o).p.k.e, .int .i64 (o).p.id, .int .i64 (o).p.ver, .slice (o).BA (o).Bn (o).Bc, .slice (o).KA (o).Kn (o).Kc]) : wr.cell? ⟨g, 0, none⟩ = some (.int .i64 o.kind) ∧ wr.cell? ⟨g, 1, none⟩ = some (.int .i64 o.i) ∧ wr.cell? ⟨g, 2, none⟩ = some (.int .i64 o.fr) ∧ wr.cell? ⟨g, 3, none⟩ = some (.int .i64 o.p.k.t) ∧ wr.cell? ⟨g, 4, none⟩ = some (.int .i64 o.p.k.c) ∧ wr.cell? ⟨g, 5, none⟩ = some (.int .i64 o.p.k.e) ∧ wr.cell? ⟨g, 6, none⟩ = some (.int .i64 o.p.id) ∧ wr.cell? ⟨g, 7, none⟩ = some (.int .i64 o.p.ver) ∧ wr.cell? ⟨g, 8, none⟩ = some (.slice o.BA o.Bn o.Bc) ∧ wr.cell? ⟨g, 9, none⟩ = some (.slice o.KA o.Kn o.Kc) :=
  ⟨(h.cell 0).trans rfl, (h.cell 1).trans rfl, (h.cell 2).trans rfl, (h.cell 3).trans rfl, (h.cell 4).trans rfl, (h.cell 5).trans rfl, (h.cell 6).trans rfl, (h.cell 7).trans rfl, (h.cell 8).trans rfl, (h.cell 9).trans rfl⟩
theorem Try.infoOpG : (Try.prog.info? 45).map (·.size) = some 10 := by kernel_rfl
theorem kmod10 (i : Int) : ∃ k : Nat, k < 10 ∧ wrap64 (1 + wrap64 ((IntKind.u64.wrap i).tmod 10)) = ((k + 1 : Nat) : Int) ∧ wrap64 ((IntKind.u64.wrap i).tmod 10) = (k : Int) ∧ wrap64 (1 + (k : Int)) = ((k + 1 : Nat) : Int) := by
  obtain ⟨k, h1, h2⟩ := kmod i 10 (by decide) (by decide)
  rw [show ((10 : Nat) : Int) = 10 from rfl] at h2
  have h3 : wrap64 (1 + (k : Int)) = ((k + 1 : Nat) : Int) := by clear h2; unfold wrap64; omega
  exact ⟨k, h1, by rw [h2, h3], h2, h3⟩

set_option maxRecDepth 100000 in
set_option maxHeartbeats 16000000 in
theorem pplays_core (bl : Int) (A : Option Addr) (n c : Nat) (w : World) (hops : OpsG w w.heap.size A n) (hn : n ≤ 9223372036854775807) :
    Calls Try.prog 3 #[.int .i64 bl, .slice A n c] w fun e w' => e = .returned (.bool true) ∧ Below w.heap.size w w' := by
  obtain ⟨k0, hk0, hkw, hkw2, hkw3⟩ := kmod10 bl
  have HK0 : Hid (k0 + 1 ≤ 10) := hid (by omega)
  have HK1 : Hid (1 ≤ k0 + 1) := hid (by omega)
  have HOPS := hid hops
  have HN := hid hn
  clear hops hn hk0
  generalize k0 + 1 = m at *
  rw [hkw2] at hkw
  go_enter Try.func3, Try.ntmps3
  go_wp2_with fail
  refine (pfirst_c w).mono ?_
  rintro e w1 ⟨rfl, hb1⟩
  have HB1 := hid hb1
  clear hb1
  go_wp2_with fail
  try rw [hkw]
  refine (dnew_onX w w1 HB1.out m HK1.out (by have := HK0.out; omega) (fun _ => False) (fun x hx => hx.elim)).mono ?_
  rintro e w2 ⟨gd, rfl, hv2, -⟩
  have HV2 := hid hv2
  clear hv2 HB1
  go_wp2_with fail
  refine (vnew_on HV2.out).mono ?_
  rintro e w3 ⟨gv, rfl, hv3, -⟩
  have HV3 := hid hv3
  clear hv3 HV2
  go_wp2_with fail
  refine (rnew_c m w3 HK1.out (by have := HK0.out; omega)).mono ?_
  rintro e w4 ⟨ge, G4, rfl, hd4, hb4, hG4⟩
  have HV5 := hid (all_new HV3.out hd4 hb4 hG4).1
  clear hd4 hb4 hG4 HV3 hkw hkw2 hkw3
  go_wp2_with fail
  generalize w4.heap.size = gw at *
  go_loopg [46] n (fun kk iv wr => ∃ (j : Nat) (d : St) (v t : Va), iv = .int .i64 (j : Int) ∧ Hid (kk = n - j) ∧ Hid (j ≤ n) ∧ Hid (j ≤ 60) ∧ Hid (On w (All gd d gv v ge d gw t) wr (fun _ => False)) ∧ Hid (Sim v t) ∧ Hid (d.W.length ≤ j) ∧ Hid (v.L.length ≤ j) ∧ Hid (v.G.length ≤ j))
  case atStart => exact ⟨0, _, _, _, rfl, hid (by omega), hid (Nat.zero_le _), hid (by decide), HV5, hid Sim.new, hid (Nat.le_refl _), hid (Nat.le_refl _), hid (Nat.le_refl _)⟩
  case round =>
  obtain ⟨j, d, v, t, rfl, hgk, hj, hj60, hV, hS, hW, hL, hG⟩ := hrel
  clear HV5
  rcases Nat.lt_or_ge j n with hlt | hge
  · have HLT := hid hlt
    obtain ⟨b, off, o, rfl, hbl, hR0, hO0⟩ := HOPS.out j hlt
    have HO := hid hO0
    have HR := hid (rangeAt_keep hR0 (hV.out.below.block b hbl))
    have j1 : (0 : Int) ≤ (j : Int) := by omega
    have j2 : (j : Int) < (n : Int) := by omega
    have j3 : decide ((j : Int) < (n : Int)) = true := by simpa using hlt
    have j4 : decide (j < n) = true := by simpa using hlt
    have wj : wrap64 ((j : Int) + 1) = ((j + 1 : Nat) : Int) := by have := HN.out; unfold wrap64; omega
    clear hR0 hO0 hbl
    have hbo : Below wr.heap.size wr (wr.alloc (.cells #[.int .i64 (o).kind, .int .i64 (o).i, .int .i64 (o).fr, .int .i64 (o).p.k.t, .int .i64 (o).p.k.c, .int .i64 (o).p.k.e, .int .i64 (o).p.id, .int .i64 (o).p.ver, .slice (o).BA (o).Bn (o).Bc, .slice (o).KA (o).Kn (o).Kc] 45)) := (Below.refl _ _).alloc (Nat.le_refl _) _
    have HV2 : Hid (On w (All gd d gv v ge d gw t) (wr.alloc (.cells #[.int .i64 (o).kind, .int .i64 (o).i, .int .i64 (o).fr, .int .i64 (o).p.k.t, .int .i64 (o).p.k.c, .int .i64 (o).p.k.e, .int .i64 (o).p.id, .int .i64 (o).p.ver, .slice (o).BA (o).Bn (o).Bc, .slice (o).KA (o).Kn (o).Kc] 45)) (fun x => x = wr.heap.size)) := hid ((hV.out.add (All.ok _ _ _ _ _ _ _ _) hbo (Y := fun x => x = wr.heap.size) (fun x hx => by subst hx; simp)).less (fun x hx => .inr hx))
    have HK2 := hid (Blk.new wr 45 #[.int .i64 (o).kind, .int .i64 (o).i, .int .i64 (o).fr, .int .i64 (o).p.k.t, .int .i64 (o).p.k.c, .int .i64 (o).p.k.e, .int .i64 (o).p.id, .int .i64 (o).p.ver, .slice (o).BA (o).Bn (o).Bc, .slice (o).KA (o).Kn (o).Kc])
    clear hbo hV hlt
    as_aux_lemma =>
    go_upto_region 10 with (refine wpList_load_mid rfl 45 _ rfl b (off + j * 10) rfl [.int .i64 o.kind, .int .i64 o.i, .int .i64 o.fr, .int .i64 o.p.k.t, .int .i64 o.p.k.c, .int .i64 o.p.k.e, .int .i64 o.p.id, .int .i64 o.p.ver, .slice o.BA o.Bn o.Bc, .slice o.KA o.Kn o.Kc] _ HR.out Try.underlying45 rfl Try.infoOpG ?_)
    generalize wr.alloc (.cells #[.int .i64 (o).kind, .int .i64 (o).i, .int .i64 (o).fr, .int .i64 (o).p.k.t, .int .i64 (o).p.k.c, .int .i64 (o).p.k.e, .int .i64 (o).p.id, .int .i64 (o).p.ver, .slice (o).BA (o).Bn (o).Bc, .slice (o).KA (o).Kn (o).Kc] 45) = w2 at *
    generalize wr.heap.size = vb at *
    obtain ⟨x0, x1, x2, x3, x4, x5, x6, x7, x8, x9⟩ := opg_cells HK2.out
    clear HR
    by_cases hbr : 60 ≤ j ∨ 300 < o.Bn ∨ 100 < o.Kn
    · have ht : decide ((60 : Int) ≤ (j : Int)) = true ∨ (decide ((60 : Int) ≤ (j : Int)) = false ∧ decide ((300 : Int) < (o.Bn : Int)) = true) ∨ (decide ((60 : Int) ≤ (j : Int)) = false ∧ decide ((300 : Int) < (o.Bn : Int)) = false ∧ decide ((100 : Int) < (o.Kn : Int)) = true) := by
        simp only [decide_eq_true_eq, decide_eq_false_iff_not]
        omega
      have HBX := hid HV2.out.below
      clear hbr
      rcases ht with e1 | ⟨e1, e2⟩ | ⟨e1, e2, e3⟩
      all_goals
        as_aux_lemma =>
        go_wp2_with fail
        refine (pread_nil1 w2 (some ⟨gv, 0, none⟩)).mono ?_
        rintro e y1 ⟨rfl, hy1⟩
        have HY1 := hid (HBX.out.trans (hy1.mono HBX.out.size))
        clear hy1
        go_wp2_with fail
        refine (pread_nil2 y1 ⟨gd, 0, none⟩).mono ?_
        rintro e y2 ⟨rfl, hy2⟩
        have HY2 := hid (HY1.out.trans (hy2.mono HY1.out.size))
        clear hy2
        go_wp2_with fail
        refine (pwrite_nil1 y2 (some ⟨gv, 0, none⟩)).mono ?_
        rintro e y3 ⟨rfl, hy3⟩
        have HY3 := hid (HY2.out.trans (hy3.mono HY2.out.size))
        clear hy3
        go_wp2_with fail
        refine (pwrite_nil2 y3 ⟨gd, 0, none⟩).mono ?_
        rintro e y4 ⟨rfl, hy4⟩
        have HY4 := hid (HY3.out.trans (hy4.mono HY3.out.size))
        clear hy4
        go_wp2
        go_ret
        exact ⟨rfl, HY4.out⟩
    have e1 : decide ((60 : Int) ≤ (j : Int)) = false := by simp; omega
    have e2 : decide ((300 : Int) < (o.Bn : Int)) = false := by simp; omega
    have e3 : decide ((100 : Int) < (o.Kn : Int)) = false := by simp; omega
    have HJ : Hid (j < 60) := hid (by omega)
    clear hbr
    obtain ⟨kd, hkd, hkm⟩ := kmod0 o.kind 8 (by decide)
    rw [show ((8 : Nat) : Int) = 8 from rfl] at hkm
    have HWW : Hid (d.W.length ≤ 1000) := hid (by have := hW.out; have := HJ.out; omega)
    have HLL : Hid (v.L.length ≤ 1000) := hid (by have := hL.out; have := HJ.out; omega)
    have HGG : Hid (v.G.length ≤ 1000) := hid (by have := hG.out; have := HJ.out; omega)
    have HTL : Hid (t.L.length ≤ 1000) := hid (by rw [← hS.out.len]; exact HLL.out)
    have HTG : Hid (t.G.length ≤ 1000) := hid (by rw [← hS.out.G]; exact HGG.out)
    have HBT : Hid (Bts w2 0 w.heap.size o.BA o.Bn o.l) := hid (HO.out.b.below HV2.out.below (Nat.le_refl _))
    have HKT : Hid (Lst w2 0 w.heap.size o.KA o.Kn (o.ks.map .bool)) := hid (HO.out.k.below HV2.out.below (Nat.le_refl _))
    have HKD := hid hkd
    clear hkd
    go_upto_block 2 with fail
    clear e1 e2 e3 x0 x1 x2 x3 x4 x5 x6 x7 x8 x9
    go_cut [13, 14] (fun ev fv wx => ∃ (z : Int) (d' : St) (v' t' : Va), ev = .int .i64 z ∧ fv = .int .i64 z ∧ Hid (On w (All gd d' gv v' ge d' gw t') wx (fun x => x = vb)) ∧ Hid (Sim v' t') ∧ Hid (d'.W.length ≤ j + 1) ∧ Hid (v'.L.length ≤ j + 1) ∧ Hid (v'.G.length ≤ j + 1) ∧ Hid (Blk wx vb 45 #[.int .i64 (o).kind, .int .i64 (o).i, .int .i64 (o).fr, .int .i64 (o).p.k.t, .int .i64 (o).p.k.c, .int .i64 (o).p.k.e, .int .i64 (o).p.id, .int .i64 (o).p.ver, .slice (o).BA (o).Bn (o).Bc, .slice (o).KA (o).Kn (o).Kc]))
    case first =>
      rcases (show kd = 0 ∨ kd = 1 ∨ kd = 2 ∨ kd = 3 ∨ kd = 4 ∨ kd = 5 ∨ kd = 6 ∨ kd = 7 by have := HKD.out; omega) with rfl | rfl | rfl | rfl | rfl | rfl | rfl | rfl
      all_goals clear HKD
      · as_aux_lemma =>
        go_wp2_with fail
        have K3 : Hid (Blk w2.drew vb 45 #[.int .i64 (o).kind, .int .i64 (o).i, .int .i64 (o).fr, .int .i64 (o).p.k.t, .int .i64 (o).p.k.c, .int .i64 (o).p.k.e, .int .i64 (o).p.id, .int .i64 (o).p.ver, .slice (o).BA (o).Bn (o).Bc, .slice (o).KA (o).Kn (o).Kc]) := hid HK2.out
        have V3 := hid (HV2.out.go (All.ok _ _ _ _ _ _ _ _) (wr' := w2.drew) ((Below.refl _ _).drew))
        have B3 : Hid (Bts w2.drew 0 w.heap.size o.BA o.Bn o.l) := hid (HBT.out.keep (fun _ _ _ => rfl))
        clear HV2 HK2 HBT
        refine wp_region_held_drew (S := fun wx => Blk wx vb 45 #[.int .i64 (o).kind, .int .i64 (o).i, .int .i64 (o).fr, .int .i64 (o).p.k.t, .int .i64 (o).p.k.c, .int .i64 (o).p.k.e, .int .i64 (o).p.id, .int .i64 (o).p.ver, .slice (o).BA (o).Bn (o).Bc, .slice (o).KA (o).Kn (o).Kc] ∧ Bts wx 0 w.heap.size o.BA o.Bn o.l) (by kernel_rfl) ⟨K3.out, B3.out⟩ (fun HS => ?_)
        generalize w2.drew = w3 at *
        refine wpAnyH_take (i := 0) (oi := ?oia0) (v := ?va0) ?hia0 (by kernel_rfl) (by kernel_rfl) (by kernel_rfl) ?hQa0 ?hya0 HS ?resta0
        case hia0 => simp only [List.getElem?_toArray, List.getElem?_cons_zero]; exact rfl
        case hQa0 => exact fun _ _ _ h => h
        case hya0 =>
          refine Or.inl ⟨by rfl, ?_⟩
          intro wS hSw
          go_simp
          try with_reducible rfl
        try simp only [Act.put, List.setIfInBounds_toArray, List.set_cons_zero, List.set_cons_succ]
        refine wpAnyH_take (i := 1) (oi := ?oia1) (v := ?va1) ?hia1 (by kernel_rfl) (by kernel_rfl) (by kernel_rfl) ?hQa1 ?hya1 HS ?resta1
        case hia1 => simp only [List.getElem?_toArray, List.getElem?_cons_succ, List.getElem?_cons_zero]; exact rfl
        case hQa1 => exact fun _ _ _ h => h
        case hya1 =>
          refine Or.inl ⟨by rfl, ?_⟩
          intro wS hSw
          go_simp
          try with_reducible rfl
        try simp only [Act.put, List.setIfInBounds_toArray, List.set_cons_zero, List.set_cons_succ]
        refine wpAnyH_take (i := 2) (oi := ?oia2) (v := ?va2) ?hia2 (by kernel_rfl) (by kernel_rfl) (by kernel_rfl) ?hQa2 ?hya2 HS ?resta2
        case hia2 => simp only [List.getElem?_toArray, List.getElem?_cons_succ, List.getElem?_cons_zero]; exact rfl
        case hQa2 => exact fun _ _ _ h => h
        case hya2 =>
          refine Or.inl ⟨by rfl, ?_⟩
          intro wS hSw
          obtain ⟨c0, c1, c2, c3, c4, c5, c6, c7, c8, c9⟩ := opg_cells hSw.1
          go_simp
          try with_reducible rfl
        try simp only [Act.put, List.setIfInBounds_toArray, List.set_cons_zero, List.set_cons_succ]
        refine wpAnyH_take (i := 3) (oi := ?oia3) (v := ?va3) ?hia3 (by kernel_rfl) (by kernel_rfl) (by kernel_rfl) ?hQa3 ?hya3 HS ?resta3
        case hia3 => simp only [List.getElem?_toArray, List.getElem?_cons_succ, List.getElem?_cons_zero]; exact rfl
        case hQa3 => exact fun _ _ _ h => h
        case hya3 =>
          refine Or.inl ⟨by rfl, ?_⟩
          intro wS hSw
          obtain ⟨c0, c1, c2, c3, c4, c5, c6, c7, c8, c9⟩ := opg_cells hSw.1
          go_simp
          try with_reducible rfl
        try simp only [Act.put, List.setIfInBounds_toArray, List.set_cons_zero, List.set_cons_succ]
        refine wpAnyH_take (i := 4) (oi := ?oia4) (v := ?va4) ?hia4 (by kernel_rfl) (by kernel_rfl) (by kernel_rfl) ?hQa4 ?hya4 HS ?resta4
        case hia4 => simp only [List.getElem?_toArray, List.getElem?_cons_succ, List.getElem?_cons_zero]; exact rfl
        case hQa4 => exact fun _ _ _ h => h
        case hya4 =>
          refine Or.inl ⟨by rfl, ?_⟩
          intro wS hSw
          obtain ⟨c0, c1, c2, c3, c4, c5, c6, c7, c8, c9⟩ := opg_cells hSw.1
          go_simp
          try with_reducible rfl
        try simp only [Act.put, List.setIfInBounds_toArray, List.set_cons_zero, List.set_cons_succ]
        refine wpAnyH_take (i := 5) (oi := ?oia5) (v := ?va5) ?hia5 (by kernel_rfl) (by kernel_rfl) (by kernel_rfl) ?hQa5 ?hya5 HS ?resta5
        case hia5 => simp only [List.getElem?_toArray, List.getElem?_cons_succ, List.getElem?_cons_zero]; exact rfl
        case hQa5 => exact fun _ _ _ h => h
        case hya5 =>
          refine Or.inl ⟨by rfl, ?_⟩
          intro wS hSw
          obtain ⟨c0, c1, c2, c3, c4, c5, c6, c7, c8, c9⟩ := opg_cells hSw.1
          go_simp
          try with_reducible rfl
        try simp only [Act.put, List.setIfInBounds_toArray, List.set_cons_zero, List.set_cons_succ]
        refine wpAnyH_take (i := 6) (oi := ?oia6) (v := ?va6) ?hia6 (by kernel_rfl) (by kernel_rfl) (by kernel_rfl) ?hQa6 ?hya6 HS ?resta6
        case hia6 => simp only [List.getElem?_toArray, List.getElem?_cons_succ, List.getElem?_cons_zero]; exact rfl
        case hQa6 => exact fun _ _ _ h => h
        case hya6 =>
          refine Or.inl ⟨by rfl, ?_⟩
          intro wS hSw
          obtain ⟨c0, c1, c2, c3, c4, c5, c6, c7, c8, c9⟩ := opg_cells hSw.1
          go_simp
          try with_reducible rfl
        try simp only [Act.put, List.setIfInBounds_toArray, List.set_cons_zero, List.set_cons_succ]
        refine wpAnyH_take (i := 7) (oi := ?oia7) (v := ?va7) ?hia7 (by kernel_rfl) (by kernel_rfl) (by kernel_rfl) ?hQa7 ?hya7 HS ?resta7
        case hia7 => simp only [List.getElem?_toArray, List.getElem?_cons_succ, List.getElem?_cons_zero]; exact rfl
        case hQa7 => exact fun _ _ _ h => h
        case hya7 =>
          refine Or.inl ⟨by rfl, ?_⟩
          intro wS hSw
          obtain ⟨c0, c1, c2, c3, c4, c5, c6, c7, c8, c9⟩ := opg_cells hSw.1
          go_simp
          try with_reducible rfl
        try simp only [Act.put, List.setIfInBounds_toArray, List.set_cons_zero, List.set_cons_succ]
        refine wpAnyH_take (i := 9) (oi := ?oia9) (v := ?va9) ?hia9 (by kernel_rfl) (by kernel_rfl) (by kernel_rfl) ?hQa9 ?hya9 HS ?resta9
        case hia9 => simp only [List.getElem?_toArray, List.getElem?_cons_succ, List.getElem?_cons_zero]; exact rfl
        case hQa9 => exact fun _ _ _ h => h
        case hya9 =>
          refine Or.inl ⟨by rfl, ?_⟩
          intro wS hSw
          go_simp
          try with_reducible rfl
        try simp only [Act.put, List.setIfInBounds_toArray, List.set_cons_zero, List.set_cons_succ]
        refine wpAnyH_take (i := 10) (oi := ?oia10) (v := ?va10) ?hia10 (by kernel_rfl) (by kernel_rfl) (by kernel_rfl) ?hQa10 ?hya10 HS ?resta10
        case hia10 => simp only [List.getElem?_toArray, List.getElem?_cons_succ, List.getElem?_cons_zero]; exact rfl
        case hQa10 => exact fun _ _ _ h => h
        case hya10 =>
          refine Or.inl ⟨by rfl, ?_⟩
          intro wS hSw
          go_simp
          try with_reducible rfl
        try simp only [Act.put, List.setIfInBounds_toArray, List.set_cons_zero, List.set_cons_succ]
        refine wpAnyH_take (i := 11) (oi := ?oia11) (v := ?va11) ?hia11 (by kernel_rfl) (by kernel_rfl) (by kernel_rfl) ?hQa11 ?hya11 HS ?resta11
        case hia11 => simp only [List.getElem?_toArray, List.getElem?_cons_succ, List.getElem?_cons_zero]; exact rfl
        case hQa11 => exact fun _ _ _ h => h
        case hya11 =>
          refine Or.inl ⟨by rfl, ?_⟩
          intro wS hSw
          obtain ⟨c0, c1, c2, c3, c4, c5, c6, c7, c8, c9⟩ := opg_cells hSw.1
          go_simp
          try with_reducible rfl
        try simp only [Act.put, List.setIfInBounds_toArray, List.set_cons_zero, List.set_cons_succ]
        refine wpAnyH_take (i := 12) (oi := ?oia12) (v := ?va12) ?hia12 (by kernel_rfl) (by kernel_rfl) (by kernel_rfl) ?hQa12 ?hya12 HS ?resta12
        case hia12 => simp only [List.getElem?_toArray, List.getElem?_cons_succ, List.getElem?_cons_zero]; exact rfl
        case hQa12 => exact fun _ _ _ h => h
        case hya12 =>
          refine Or.inl ⟨by rfl, ?_⟩
          intro wS hSw
          obtain ⟨c0, c1, c2, c3, c4, c5, c6, c7, c8, c9⟩ := opg_cells hSw.1
          go_simp
          try with_reducible rfl
        try simp only [Act.put, List.setIfInBounds_toArray, List.set_cons_zero, List.set_cons_succ]
        refine wpAnyH_take (i := 13) (oi := ?oia13) (v := ?va13) ?hia13 (by kernel_rfl) (by kernel_rfl) (by kernel_rfl) ?hQa13 ?hya13 HS ?resta13
        case hia13 => simp only [List.getElem?_toArray, List.getElem?_cons_succ, List.getElem?_cons_zero]; exact rfl
        case hQa13 => exact fun _ _ _ h => h
        case hya13 =>
          refine Or.inl ⟨by rfl, ?_⟩
          intro wS hSw
          obtain ⟨c0, c1, c2, c3, c4, c5, c6, c7, c8, c9⟩ := opg_cells hSw.1
          go_simp
          try with_reducible rfl
        try simp only [Act.put, List.setIfInBounds_toArray, List.set_cons_zero, List.set_cons_succ]
        refine wpAnyH_take (i := 14) (oi := ?oia14) (v := ?va14) ?hia14 (by kernel_rfl) (by kernel_rfl) (by kernel_rfl) ?hQa14 ?hya14 HS ?resta14
        case hia14 => simp only [List.getElem?_toArray, List.getElem?_cons_succ, List.getElem?_cons_zero]; exact rfl
        case hQa14 => exact fun _ _ _ h => h
        case hya14 =>
          refine Or.inl ⟨by rfl, ?_⟩
          intro wS hSw
          obtain ⟨c0, c1, c2, c3, c4, c5, c6, c7, c8, c9⟩ := opg_cells hSw.1
          go_simp
          try with_reducible rfl
        try simp only [Act.put, List.setIfInBounds_toArray, List.set_cons_zero, List.set_cons_succ]
        refine wpAnyH_take (i := 15) (oi := ?oia15) (v := ?va15) ?hia15 (by kernel_rfl) (by kernel_rfl) (by kernel_rfl) ?hQa15 ?hya15 HS ?resta15
        case hia15 => simp only [List.getElem?_toArray, List.getElem?_cons_succ, List.getElem?_cons_zero]; exact rfl
        case hQa15 => exact fun _ _ _ h => h
        case hya15 =>
          refine Or.inl ⟨by rfl, ?_⟩
          intro wS hSw
          obtain ⟨c0, c1, c2, c3, c4, c5, c6, c7, c8, c9⟩ := opg_cells hSw.1
          go_simp
          try with_reducible rfl
        try simp only [Act.put, List.setIfInBounds_toArray, List.set_cons_zero, List.set_cons_succ]
        refine wpAnyH_take (i := 16) (oi := ?oia16) (v := ?va16) ?hia16 (by kernel_rfl) (by kernel_rfl) (by kernel_rfl) ?hQa16 ?hya16 HS ?resta16
        case hia16 => simp only [List.getElem?_toArray, List.getElem?_cons_succ, List.getElem?_cons_zero]; exact rfl
        case hQa16 => exact fun _ _ _ h => h
        case hya16 =>
          refine Or.inl ⟨by rfl, ?_⟩
          intro wS hSw
          obtain ⟨c0, c1, c2, c3, c4, c5, c6, c7, c8, c9⟩ := opg_cells hSw.1
          go_simp
          try with_reducible rfl
        try simp only [Act.put, List.setIfInBounds_toArray, List.set_cons_zero, List.set_cons_succ]
        refine wpAnyH_take (i := 17) (oi := ?oia17) (v := ?va17) ?hia17 (by kernel_rfl) (by kernel_rfl) (by kernel_rfl) ?hQa17 ?hya17 HS ?resta17
        case hia17 => simp only [List.getElem?_toArray, List.getElem?_cons_succ, List.getElem?_cons_zero]; exact rfl
        case hQa17 => exact fun _ _ _ h => h
        case hya17 =>
          refine Or.inl ⟨by rfl, ?_⟩
          intro wS hSw
          have hcv := run_conv hSw.2 (c := o.Bc)
          go_simp
          try with_reducible rfl
        try simp only [Act.put, List.setIfInBounds_toArray, List.set_cons_zero, List.set_cons_succ]
        refine wpAnyH_ready (rs := [8]) (by kernel_rfl) (by simp) ?_
        refine AllReadyH.cons (o := ?oa8) ?hoa8 (fun K hK => ?stepa8) AllReadyH.nil
        case hoa8 => simp only [List.getElem?_toArray, List.getElem?_cons_succ, List.getElem?_cons_zero]; exact rfl
        go_simp
        have hc := a_write V3.out o.p HO.out.p o.i HO.out.i1 o.BA o.Bn o.Bc o.l ((HO.out.b.below V3.out.below (Nat.le_refl _)).wide (Nat.le_refl _) V3.out.below.size) (Nat.le_trans HWW.out (by decide)) (Nat.le_trans HLL.out (by decide))
        rw [hS.out.pwE, hS.out.pwD] at hc
        refine hc.mono ?_
        rintro e w4 ⟨rfl, hv4, hk4⟩
        clear hc
        have V4 := hid hv4
        have K4 : Hid (Blk w4 vb 45 #[.int .i64 (o).kind, .int .i64 (o).i, .int .i64 (o).fr, .int .i64 (o).p.k.t, .int .i64 (o).p.k.c, .int .i64 (o).p.k.e, .int .i64 (o).p.id, .int .i64 (o).p.ver, .slice (o).BA (o).Bn (o).Bc, .slice (o).KA (o).Kn (o).Kc]) := hid (K3.out.keep (hk4.2 vb rfl))
        have B4 : Hid (Bts w4 0 w.heap.size o.BA o.Bn o.l) := hid (HO.out.b.below hv4.below (Nat.le_refl _))
        clear hv4 hk4

        refine hK.out _ _ ⟨K4.out, B4.out⟩ (fun HS => ?_)
        clear hK K
        try simp only [Act.put, List.setIfInBounds_toArray, List.set_cons_zero, List.set_cons_succ]
        refine wpAnyH_ready (rs := [18]) (by kernel_rfl) (by simp) ?_
        refine AllReadyH.cons (o := ?oa18) ?hoa18 (fun K hK => ?stepa18) AllReadyH.nil
        case hoa18 => simp only [List.getElem?_toArray, List.getElem?_cons_succ, List.getElem?_cons_zero]; exact rfl
        go_simp
        refine (r_write V4.out o.p HO.out.p o.i HO.out.i1 o.l (Nat.le_trans HWW.out (by decide)) (Nat.le_trans HTG.out (by decide)) (Nat.le_trans HTL.out (by decide))).mono ?_
        rintro e w5 ⟨rfl, hv5, hk5⟩
        have V5 := hid hv5
        have K5 : Hid (Blk w5 vb 45 #[.int .i64 (o).kind, .int .i64 (o).i, .int .i64 (o).fr, .int .i64 (o).p.k.t, .int .i64 (o).p.k.c, .int .i64 (o).p.k.e, .int .i64 (o).p.id, .int .i64 (o).p.ver, .slice (o).BA (o).Bn (o).Bc, .slice (o).KA (o).Kn (o).Kc]) := hid (K4.out.keep (hk5.2 vb rfl))
        have B5 : Hid (Bts w5 0 w.heap.size o.BA o.Bn o.l) := hid (HO.out.b.below hv5.below (Nat.le_refl _))
        clear hv5 hk5

        refine hK.out _ _ ⟨K5.out, B5.out⟩ (fun HS => ?_)
        clear hK K
        try simp only [Act.put, List.setIfInBounds_toArray, List.set_cons_zero, List.set_cons_succ]
        refine wpAnyH_take (i := 19) (oi := ?oia19) (v := ?va19) ?hia19 (by kernel_rfl) (by kernel_rfl) (by kernel_rfl) ?hQa19 ?hya19 HS ?resta19
        case hia19 => simp only [List.getElem?_toArray, List.getElem?_cons_succ, List.getElem?_cons_zero]; exact rfl
        case hQa19 => exact fun _ _ _ h => h
        case hya19 =>
          refine Or.inl ⟨by rfl, ?_⟩
          intro wS hSw
          go_simp
          try with_reducible rfl
        try simp only [Act.put, List.setIfInBounds_toArray, List.set_cons_zero, List.set_cons_succ]
        refine wpAnyH_take (i := 20) (oi := ?oia20) (v := ?va20) ?hia20 (by kernel_rfl) (by kernel_rfl) (by kernel_rfl) ?hQa20 ?hya20 HS ?resta20
        case hia20 => simp only [List.getElem?_toArray, List.getElem?_cons_succ, List.getElem?_cons_zero]; exact rfl
        case hQa20 => exact fun _ _ _ h => h
        case hya20 =>
          refine Or.inl ⟨by rfl, ?_⟩
          intro wS hSw
          go_simp
          try with_reducible rfl
        try simp only [Act.put, List.setIfInBounds_toArray, List.set_cons_zero, List.set_cons_succ]
        refine wpAnyH_done (by kernel_rfl) ?_ _
        clear HS
        go_wp2_with fail
        go_meet
        case rel => exact ⟨_, _, _, _, rfl, rfl, V5, hid (hS.out.pwV d o.i o.p o.l), hid (by have h1 := hW.out; have h2 := pwD_W d t o.i o.p o.l.length; omega), hid (by have h1 := hL.out; have h2 := (pwV_L d v o.i o.p o.l).1; omega), hid (by have h1 := hG.out; have h2 := (pwV_L d v o.i o.p o.l).2; rw [h2]; omega), K5⟩
      · as_aux_lemma =>
        go_wp2_with fail
        go_meet
        case rel => exact ⟨0, d, v, t, rfl, rfl, HV2, hS, hid (by have := hW.out; omega), hid (by have := hL.out; omega), hid (by have := hG.out; omega), HK2⟩
      · as_aux_lemma =>
        go_wp2_with fail
        have K3 : Hid (Blk w2.drew vb 45 #[.int .i64 (o).kind, .int .i64 (o).i, .int .i64 (o).fr, .int .i64 (o).p.k.t, .int .i64 (o).p.k.c, .int .i64 (o).p.k.e, .int .i64 (o).p.id, .int .i64 (o).p.ver, .slice (o).BA (o).Bn (o).Bc, .slice (o).KA (o).Kn (o).Kc]) := hid HK2.out
        have V3 := hid (HV2.out.go (All.ok _ _ _ _ _ _ _ _) (wr' := w2.drew) ((Below.refl _ _).drew))
        have B3 : Hid (Bts w2.drew 0 w.heap.size o.BA o.Bn o.l) := hid (HBT.out.keep (fun _ _ _ => rfl))
        clear HV2 HK2 HBT
        refine wp_region_held_drew (S := fun wx => Blk wx vb 45 #[.int .i64 (o).kind, .int .i64 (o).i, .int .i64 (o).fr, .int .i64 (o).p.k.t, .int .i64 (o).p.k.c, .int .i64 (o).p.k.e, .int .i64 (o).p.id, .int .i64 (o).p.ver, .slice (o).BA (o).Bn (o).Bc, .slice (o).KA (o).Kn (o).Kc] ∧ Bts wx 0 w.heap.size o.BA o.Bn o.l) (by kernel_rfl) ⟨K3.out, B3.out⟩ (fun HS => ?_)
        generalize w2.drew = w3 at *
        refine wpAnyH_take (i := 0) (oi := ?oic0) (v := ?vc0) ?hic0 (by kernel_rfl) (by kernel_rfl) (by kernel_rfl) ?hQc0 ?hyc0 HS ?restc0
        case hic0 => simp only [List.getElem?_toArray, List.getElem?_cons_zero]; exact rfl
        case hQc0 => exact fun _ _ _ h => h
        case hyc0 =>
          refine Or.inl ⟨by rfl, ?_⟩
          intro wS hSw
          go_simp
          try with_reducible rfl
        try simp only [Act.put, List.setIfInBounds_toArray, List.set_cons_zero, List.set_cons_succ]
        refine wpAnyH_take (i := 1) (oi := ?oic1) (v := ?vc1) ?hic1 (by kernel_rfl) (by kernel_rfl) (by kernel_rfl) ?hQc1 ?hyc1 HS ?restc1
        case hic1 => simp only [List.getElem?_toArray, List.getElem?_cons_succ, List.getElem?_cons_zero]; exact rfl
        case hQc1 => exact fun _ _ _ h => h
        case hyc1 =>
          refine Or.inl ⟨by rfl, ?_⟩
          intro wS hSw
          obtain ⟨c0, c1, c2, c3, c4, c5, c6, c7, c8, c9⟩ := opg_cells hSw.1
          go_simp
          try with_reducible rfl
        try simp only [Act.put, List.setIfInBounds_toArray, List.set_cons_zero, List.set_cons_succ]
        refine wpAnyH_take (i := 2) (oi := ?oic2) (v := ?vc2) ?hic2 (by kernel_rfl) (by kernel_rfl) (by kernel_rfl) ?hQc2 ?hyc2 HS ?restc2
        case hic2 => simp only [List.getElem?_toArray, List.getElem?_cons_succ, List.getElem?_cons_zero]; exact rfl
        case hQc2 => exact fun _ _ _ h => h
        case hyc2 =>
          refine Or.inl ⟨by rfl, ?_⟩
          intro wS hSw
          obtain ⟨c0, c1, c2, c3, c4, c5, c6, c7, c8, c9⟩ := opg_cells hSw.1
          go_simp
          try with_reducible rfl
        try simp only [Act.put, List.setIfInBounds_toArray, List.set_cons_zero, List.set_cons_succ]
        refine wpAnyH_take (i := 3) (oi := ?oic3) (v := ?vc3) ?hic3 (by kernel_rfl) (by kernel_rfl) (by kernel_rfl) ?hQc3 ?hyc3 HS ?restc3
        case hic3 => simp only [List.getElem?_toArray, List.getElem?_cons_succ, List.getElem?_cons_zero]; exact rfl
        case hQc3 => exact fun _ _ _ h => h
        case hyc3 =>
          refine Or.inl ⟨by rfl, ?_⟩
          intro wS hSw
          obtain ⟨c0, c1, c2, c3, c4, c5, c6, c7, c8, c9⟩ := opg_cells hSw.1
          go_simp
          try with_reducible rfl
        try simp only [Act.put, List.setIfInBounds_toArray, List.set_cons_zero, List.set_cons_succ]
        refine wpAnyH_take (i := 4) (oi := ?oic4) (v := ?vc4) ?hic4 (by kernel_rfl) (by kernel_rfl) (by kernel_rfl) ?hQc4 ?hyc4 HS ?restc4
        case hic4 => simp only [List.getElem?_toArray, List.getElem?_cons_succ, List.getElem?_cons_zero]; exact rfl
        case hQc4 => exact fun _ _ _ h => h
        case hyc4 =>
          refine Or.inl ⟨by rfl, ?_⟩
          intro wS hSw
          obtain ⟨c0, c1, c2, c3, c4, c5, c6, c7, c8, c9⟩ := opg_cells hSw.1
          go_simp
          try with_reducible rfl
        try simp only [Act.put, List.setIfInBounds_toArray, List.set_cons_zero, List.set_cons_succ]
        refine wpAnyH_take (i := 6) (oi := ?oic6) (v := ?vc6) ?hic6 (by kernel_rfl) (by kernel_rfl) (by kernel_rfl) ?hQc6 ?hyc6 HS ?restc6
        case hic6 => simp only [List.getElem?_toArray, List.getElem?_cons_succ, List.getElem?_cons_zero]; exact rfl
        case hQc6 => exact fun _ _ _ h => h
        case hyc6 =>
          refine Or.inl ⟨by rfl, ?_⟩
          intro wS hSw
          go_simp
          try with_reducible rfl
        try simp only [Act.put, List.setIfInBounds_toArray, List.set_cons_zero, List.set_cons_succ]
        refine wpAnyH_take (i := 7) (oi := ?oic7) (v := ?vc7) ?hic7 (by kernel_rfl) (by kernel_rfl) (by kernel_rfl) ?hQc7 ?hyc7 HS ?restc7
        case hic7 => simp only [List.getElem?_toArray, List.getElem?_cons_succ, List.getElem?_cons_zero]; exact rfl
        case hQc7 => exact fun _ _ _ h => h
        case hyc7 =>
          refine Or.inl ⟨by rfl, ?_⟩
          intro wS hSw
          obtain ⟨c0, c1, c2, c3, c4, c5, c6, c7, c8, c9⟩ := opg_cells hSw.1
          go_simp
          try with_reducible rfl
        try simp only [Act.put, List.setIfInBounds_toArray, List.set_cons_zero, List.set_cons_succ]
        refine wpAnyH_take (i := 8) (oi := ?oic8) (v := ?vc8) ?hic8 (by kernel_rfl) (by kernel_rfl) (by kernel_rfl) ?hQc8 ?hyc8 HS ?restc8
        case hic8 => simp only [List.getElem?_toArray, List.getElem?_cons_succ, List.getElem?_cons_zero]; exact rfl
        case hQc8 => exact fun _ _ _ h => h
        case hyc8 =>
          refine Or.inl ⟨by rfl, ?_⟩
          intro wS hSw
          obtain ⟨c0, c1, c2, c3, c4, c5, c6, c7, c8, c9⟩ := opg_cells hSw.1
          go_simp
          try with_reducible rfl
        try simp only [Act.put, List.setIfInBounds_toArray, List.set_cons_zero, List.set_cons_succ]
        refine wpAnyH_take (i := 9) (oi := ?oic9) (v := ?vc9) ?hic9 (by kernel_rfl) (by kernel_rfl) (by kernel_rfl) ?hQc9 ?hyc9 HS ?restc9
        case hic9 => simp only [List.getElem?_toArray, List.getElem?_cons_succ, List.getElem?_cons_zero]; exact rfl
        case hQc9 => exact fun _ _ _ h => h
        case hyc9 =>
          refine Or.inl ⟨by rfl, ?_⟩
          intro wS hSw
          obtain ⟨c0, c1, c2, c3, c4, c5, c6, c7, c8, c9⟩ := opg_cells hSw.1
          go_simp
          try with_reducible rfl
        try simp only [Act.put, List.setIfInBounds_toArray, List.set_cons_zero, List.set_cons_succ]
        refine wpAnyH_take (i := 10) (oi := ?oic10) (v := ?vc10) ?hic10 (by kernel_rfl) (by kernel_rfl) (by kernel_rfl) ?hQc10 ?hyc10 HS ?restc10
        case hic10 => simp only [List.getElem?_toArray, List.getElem?_cons_succ, List.getElem?_cons_zero]; exact rfl
        case hQc10 => exact fun _ _ _ h => h
        case hyc10 =>
          refine Or.inl ⟨by rfl, ?_⟩
          intro wS hSw
          obtain ⟨c0, c1, c2, c3, c4, c5, c6, c7, c8, c9⟩ := opg_cells hSw.1
          go_simp
          try with_reducible rfl
        try simp only [Act.put, List.setIfInBounds_toArray, List.set_cons_zero, List.set_cons_succ]
        refine wpAnyH_take (i := 11) (oi := ?oic11) (v := ?vc11) ?hic11 (by kernel_rfl) (by kernel_rfl) (by kernel_rfl) ?hQc11 ?hyc11 HS ?restc11
        case hic11 => simp only [List.getElem?_toArray, List.getElem?_cons_succ, List.getElem?_cons_zero]; exact rfl
        case hQc11 => exact fun _ _ _ h => h
        case hyc11 =>
          refine Or.inl ⟨by rfl, ?_⟩
          intro wS hSw
          have hcv := run_conv hSw.2 (c := o.Bc)
          go_simp
          try with_reducible rfl
        try simp only [Act.put, List.setIfInBounds_toArray, List.set_cons_zero, List.set_cons_succ]
        refine wpAnyH_ready (rs := [5]) (by kernel_rfl) (by simp) ?_
        refine AllReadyH.cons (o := ?oc5) ?hoc5 (fun K hK => ?stepc5) AllReadyH.nil
        case hoc5 => simp only [List.getElem?_toArray, List.getElem?_cons_succ, List.getElem?_cons_zero]; exact rfl
        go_simp
        refine (a_over V3.out o.i o.BA o.Bn o.Bc o.l ((HO.out.b.below V3.out.below (Nat.le_refl _)).wide (Nat.le_refl _) V3.out.below.size) (Nat.le_trans HWW.out (by decide))).mono ?_
        rintro e w4 ⟨rfl, hv4, hk4⟩
        have V4 := hid hv4
        have K4 : Hid (Blk w4 vb 45 #[.int .i64 (o).kind, .int .i64 (o).i, .int .i64 (o).fr, .int .i64 (o).p.k.t, .int .i64 (o).p.k.c, .int .i64 (o).p.k.e, .int .i64 (o).p.id, .int .i64 (o).p.ver, .slice (o).BA (o).Bn (o).Bc, .slice (o).KA (o).Kn (o).Kc]) := hid (K3.out.keep (hk4.2 vb rfl))
        have B4 : Hid (Bts w4 0 w.heap.size o.BA o.Bn o.l) := hid (HO.out.b.below hv4.below (Nat.le_refl _))
        clear hv4 hk4

        refine hK.out _ _ ⟨K4.out, B4.out⟩ (fun HS => ?_)
        clear hK K
        try simp only [Act.put, List.setIfInBounds_toArray, List.set_cons_zero, List.set_cons_succ]
        refine wpAnyH_ready (rs := [12]) (by kernel_rfl) (by simp) ?_
        refine AllReadyH.cons (o := ?oc12) ?hoc12 (fun K hK => ?stepc12) AllReadyH.nil
        case hoc12 => simp only [List.getElem?_toArray, List.getElem?_cons_succ, List.getElem?_cons_zero]; exact rfl
        go_simp
        refine (r_over V4.out o.i o.l (Nat.le_trans HWW.out (by decide))).mono ?_
        rintro e w5 ⟨rfl, hv5, hk5⟩
        have V5 := hid hv5
        have K5 : Hid (Blk w5 vb 45 #[.int .i64 (o).kind, .int .i64 (o).i, .int .i64 (o).fr, .int .i64 (o).p.k.t, .int .i64 (o).p.k.c, .int .i64 (o).p.k.e, .int .i64 (o).p.id, .int .i64 (o).p.ver, .slice (o).BA (o).Bn (o).Bc, .slice (o).KA (o).Kn (o).Kc]) := hid (K4.out.keep (hk5.2 vb rfl))
        have B5 : Hid (Bts w5 0 w.heap.size o.BA o.Bn o.l) := hid (HO.out.b.below hv5.below (Nat.le_refl _))
        clear hv5 hk5

        refine hK.out _ _ ⟨K5.out, B5.out⟩ (fun HS => ?_)
        clear hK K
        try simp only [Act.put, List.setIfInBounds_toArray, List.set_cons_zero, List.set_cons_succ]
        refine wpAnyH_take (i := 13) (oi := ?oic13) (v := ?vc13) ?hic13 (by kernel_rfl) (by kernel_rfl) (by kernel_rfl) ?hQc13 ?hyc13 HS ?restc13
        case hic13 => simp only [List.getElem?_toArray, List.getElem?_cons_succ, List.getElem?_cons_zero]; exact rfl
        case hQc13 => exact fun _ _ _ h => h
        case hyc13 =>
          refine Or.inl ⟨by rfl, ?_⟩
          intro wS hSw
          go_simp
          try with_reducible rfl
        try simp only [Act.put, List.setIfInBounds_toArray, List.set_cons_zero, List.set_cons_succ]
        refine wpAnyH_take (i := 14) (oi := ?oic14) (v := ?vc14) ?hic14 (by kernel_rfl) (by kernel_rfl) (by kernel_rfl) ?hQc14 ?hyc14 HS ?restc14
        case hic14 => simp only [List.getElem?_toArray, List.getElem?_cons_succ, List.getElem?_cons_zero]; exact rfl
        case hQc14 => exact fun _ _ _ h => h
        case hyc14 =>
          refine Or.inl ⟨by rfl, ?_⟩
          intro wS hSw
          go_simp
          try with_reducible rfl
        try simp only [Act.put, List.setIfInBounds_toArray, List.set_cons_zero, List.set_cons_succ]
        refine wpAnyH_done (by kernel_rfl) ?_ _
        clear HS
        go_wp2_with fail
        go_meet
        case rel => exact ⟨_, _, v, t, rfl, rfl, V5, hS, hid (by have h1 := hW.out; have h2 := ovS_W d o.i o.l; omega), hid (by have := hL.out; omega), hid (by have := hG.out; omega), K5⟩
      · as_aux_lemma =>
        obtain ⟨x0, x1, x2, x3, x4, x5, x6, x7, x8, x9⟩ := opg_cells HK2.out
        go_wp2_with fail
        refine (a_dread HV2.out o.fr).mono ?_
        rintro e w4 ⟨A4, n4, c4, rfl, ho4, -, hb4⟩
        have V4 := hid (HV2.out.go (All.ok _ _ _ _ _ _ _ _) hb4)
        have K4 := hid (HK2.out.keep (hb4.block vb HK2.out.lt))
        have T4 := hid ((Bts.own ho4).wide (Nat.zero_le _) (Nat.le_refl _))
        clear ho4 hb4 HV2 HK2 HBT x0 x1 x2 x3 x4 x5 x6 x7 x8 x9
        obtain ⟨x0, x1, x2, x3, x4, x5, x6, x7, x8, x9⟩ := opg_cells K4.out
        go_wp2_with fail
        refine (r_dread V4.out o.fr (Nat.le_trans HWW.out (by decide))).mono ?_
        rintro e w5 ⟨rfl, rfl⟩
        clear x0 x1 x2 x3 x4 x5 x6 x7 x8 x9
        go_wp2_with fail
        have K3 : Hid (Blk w4.drew vb 45 #[.int .i64 (o).kind, .int .i64 (o).i, .int .i64 (o).fr, .int .i64 (o).p.k.t, .int .i64 (o).p.k.c, .int .i64 (o).p.k.e, .int .i64 (o).p.id, .int .i64 (o).p.ver, .slice (o).BA (o).Bn (o).Bc, .slice (o).KA (o).Kn (o).Kc]) := hid K4.out
        have V3 := hid (V4.out.go (All.ok _ _ _ _ _ _ _ _) (wr' := w4.drew) ((Below.refl _ _).drew))
        have T3 : Hid (Bts w4.drew 0 w4.drew.heap.size A4 n4 (rdB d o.fr)) := hid (T4.out.keep (fun _ _ _ => rfl))
        clear V4 K4 T4
        refine wp_region_held_drew (S := fun wx => Blk wx vb 45 #[.int .i64 (o).kind, .int .i64 (o).i, .int .i64 (o).fr, .int .i64 (o).p.k.t, .int .i64 (o).p.k.c, .int .i64 (o).p.k.e, .int .i64 (o).p.id, .int .i64 (o).p.ver, .slice (o).BA (o).Bn (o).Bc, .slice (o).KA (o).Kn (o).Kc]) (by kernel_rfl) K3.out (fun HS => ?_)
        generalize w4.drew = w3 at *
        refine wpAnyH_take (i := 0) (oi := ?oie0) (v := ?ve0) ?hie0 (by kernel_rfl) (by kernel_rfl) (by kernel_rfl) ?hQe0 ?hye0 HS ?reste0
        case hie0 => simp only [List.getElem?_toArray, List.getElem?_cons_zero]; exact rfl
        case hQe0 => exact fun _ _ _ h => h
        case hye0 =>
          refine Or.inl ⟨by rfl, ?_⟩
          intro wS hSw
          go_simp
          try with_reducible rfl
        try simp only [Act.put, List.setIfInBounds_toArray, List.set_cons_zero, List.set_cons_succ]
        refine wpAnyH_take (i := 1) (oi := ?oie1) (v := ?ve1) ?hie1 (by kernel_rfl) (by kernel_rfl) (by kernel_rfl) ?hQe1 ?hye1 HS ?reste1
        case hie1 => simp only [List.getElem?_toArray, List.getElem?_cons_succ, List.getElem?_cons_zero]; exact rfl
        case hQe1 => exact fun _ _ _ h => h
        case hye1 =>
          refine Or.inl ⟨by rfl, ?_⟩
          intro wS hSw
          obtain ⟨c0, c1, c2, c3, c4, c5, c6, c7, c8, c9⟩ := opg_cells hSw
          go_simp
          try with_reducible rfl
        try simp only [Act.put, List.setIfInBounds_toArray, List.set_cons_zero, List.set_cons_succ]
        refine wpAnyH_take (i := 2) (oi := ?oie2) (v := ?ve2) ?hie2 (by kernel_rfl) (by kernel_rfl) (by kernel_rfl) ?hQe2 ?hye2 HS ?reste2
        case hie2 => simp only [List.getElem?_toArray, List.getElem?_cons_succ, List.getElem?_cons_zero]; exact rfl
        case hQe2 => exact fun _ _ _ h => h
        case hye2 =>
          refine Or.inl ⟨by rfl, ?_⟩
          intro wS hSw
          obtain ⟨c0, c1, c2, c3, c4, c5, c6, c7, c8, c9⟩ := opg_cells hSw
          go_simp
          try with_reducible rfl
        try simp only [Act.put, List.setIfInBounds_toArray, List.set_cons_zero, List.set_cons_succ]
        refine wpAnyH_take (i := 3) (oi := ?oie3) (v := ?ve3) ?hie3 (by kernel_rfl) (by kernel_rfl) (by kernel_rfl) ?hQe3 ?hye3 HS ?reste3
        case hie3 => simp only [List.getElem?_toArray, List.getElem?_cons_succ, List.getElem?_cons_zero]; exact rfl
        case hQe3 => exact fun _ _ _ h => h
        case hye3 =>
          refine Or.inl ⟨by rfl, ?_⟩
          intro wS hSw
          go_simp
          try with_reducible rfl
        try simp only [Act.put, List.setIfInBounds_toArray, List.set_cons_zero, List.set_cons_succ]
        refine wpAnyH_take (i := 5) (oi := ?oie5) (v := ?ve5) ?hie5 (by kernel_rfl) (by kernel_rfl) (by kernel_rfl) ?hQe5 ?hye5 HS ?reste5
        case hie5 => simp only [List.getElem?_toArray, List.getElem?_cons_succ, List.getElem?_cons_zero]; exact rfl
        case hQe5 => exact fun _ _ _ h => h
        case hye5 =>
          refine Or.inl ⟨by rfl, ?_⟩
          intro wS hSw
          go_simp
          try with_reducible rfl
        try simp only [Act.put, List.setIfInBounds_toArray, List.set_cons_zero, List.set_cons_succ]
        refine wpAnyH_take (i := 6) (oi := ?oie6) (v := ?ve6) ?hie6 (by kernel_rfl) (by kernel_rfl) (by kernel_rfl) ?hQe6 ?hye6 HS ?reste6
        case hie6 => simp only [List.getElem?_toArray, List.getElem?_cons_succ, List.getElem?_cons_zero]; exact rfl
        case hQe6 => exact fun _ _ _ h => h
        case hye6 =>
          refine Or.inl ⟨by rfl, ?_⟩
          intro wS hSw
          obtain ⟨c0, c1, c2, c3, c4, c5, c6, c7, c8, c9⟩ := opg_cells hSw
          go_simp
          try with_reducible rfl
        try simp only [Act.put, List.setIfInBounds_toArray, List.set_cons_zero, List.set_cons_succ]
        refine wpAnyH_take (i := 7) (oi := ?oie7) (v := ?ve7) ?hie7 (by kernel_rfl) (by kernel_rfl) (by kernel_rfl) ?hQe7 ?hye7 HS ?reste7
        case hie7 => simp only [List.getElem?_toArray, List.getElem?_cons_succ, List.getElem?_cons_zero]; exact rfl
        case hQe7 => exact fun _ _ _ h => h
        case hye7 =>
          refine Or.inl ⟨by rfl, ?_⟩
          intro wS hSw
          obtain ⟨c0, c1, c2, c3, c4, c5, c6, c7, c8, c9⟩ := opg_cells hSw
          go_simp
          try with_reducible rfl
        try simp only [Act.put, List.setIfInBounds_toArray, List.set_cons_zero, List.set_cons_succ]
        refine wpAnyH_take (i := 8) (oi := ?oie8) (v := ?ve8) ?hie8 (by kernel_rfl) (by kernel_rfl) (by kernel_rfl) ?hQe8 ?hye8 HS ?reste8
        case hie8 => simp only [List.getElem?_toArray, List.getElem?_cons_succ, List.getElem?_cons_zero]; exact rfl
        case hQe8 => exact fun _ _ _ h => h
        case hye8 =>
          refine Or.inl ⟨by rfl, ?_⟩
          intro wS hSw
          go_simp
          try with_reducible rfl
        try simp only [Act.put, List.setIfInBounds_toArray, List.set_cons_zero, List.set_cons_succ]
        refine wpAnyH_ready (rs := [4]) (by kernel_rfl) (by simp) ?_
        refine AllReadyH.cons (o := ?oe4) ?hoe4 (fun K hK => ?stepe4) AllReadyH.nil
        case hoe4 => simp only [List.getElem?_toArray, List.getElem?_cons_succ, List.getElem?_cons_zero]; exact rfl
        go_simp
        refine (a_over V3.out o.i A4 n4 c4 _ T3.out (Nat.le_trans HWW.out (by decide))).mono ?_
        rintro e w6 ⟨rfl, hv6, hk6⟩
        have V6 := hid hv6
        have K6 : Hid (Blk w6 vb 45 #[.int .i64 (o).kind, .int .i64 (o).i, .int .i64 (o).fr, .int .i64 (o).p.k.t, .int .i64 (o).p.k.c, .int .i64 (o).p.k.e, .int .i64 (o).p.id, .int .i64 (o).p.ver, .slice (o).BA (o).Bn (o).Bc, .slice (o).KA (o).Kn (o).Kc]) := hid (K3.out.keep (hk6.2 vb rfl))
        have B6 : Hid (Bts w6 0 w.heap.size o.BA o.Bn o.l) := hid (HO.out.b.below hv6.below (Nat.le_refl _))
        clear hv6 hk6

        refine hK.out _ _ K6.out (fun HS => ?_)
        clear hK K
        try simp only [Act.put, List.setIfInBounds_toArray, List.set_cons_zero, List.set_cons_succ]
        refine wpAnyH_ready (rs := [9]) (by kernel_rfl) (by simp) ?_
        refine AllReadyH.cons (o := ?oe9) ?hoe9 (fun K hK => ?stepe9) AllReadyH.nil
        case hoe9 => simp only [List.getElem?_toArray, List.getElem?_cons_succ, List.getElem?_cons_zero]; exact rfl
        go_simp
        refine (r_over V6.out o.i (rdB d o.fr) (Nat.le_trans HWW.out (by decide))).mono ?_
        rintro e w5 ⟨rfl, hv5, hk5⟩
        have V5 := hid hv5
        have K5 : Hid (Blk w5 vb 45 #[.int .i64 (o).kind, .int .i64 (o).i, .int .i64 (o).fr, .int .i64 (o).p.k.t, .int .i64 (o).p.k.c, .int .i64 (o).p.k.e, .int .i64 (o).p.id, .int .i64 (o).p.ver, .slice (o).BA (o).Bn (o).Bc, .slice (o).KA (o).Kn (o).Kc]) := hid (K6.out.keep (hk5.2 vb rfl))
        have B5 : Hid (Bts w5 0 w.heap.size o.BA o.Bn o.l) := hid (HO.out.b.below hv5.below (Nat.le_refl _))
        clear hv5 hk5

        refine hK.out _ _ K5.out (fun HS => ?_)
        clear hK K
        try simp only [Act.put, List.setIfInBounds_toArray, List.set_cons_zero, List.set_cons_succ]
        refine wpAnyH_take (i := 10) (oi := ?oie10) (v := ?ve10) ?hie10 (by kernel_rfl) (by kernel_rfl) (by kernel_rfl) ?hQe10 ?hye10 HS ?reste10
        case hie10 => simp only [List.getElem?_toArray, List.getElem?_cons_succ, List.getElem?_cons_zero]; exact rfl
        case hQe10 => exact fun _ _ _ h => h
        case hye10 =>
          refine Or.inl ⟨by rfl, ?_⟩
          intro wS hSw
          go_simp
          try with_reducible rfl
        try simp only [Act.put, List.setIfInBounds_toArray, List.set_cons_zero, List.set_cons_succ]
        refine wpAnyH_take (i := 11) (oi := ?oie11) (v := ?ve11) ?hie11 (by kernel_rfl) (by kernel_rfl) (by kernel_rfl) ?hQe11 ?hye11 HS ?reste11
        case hie11 => simp only [List.getElem?_toArray, List.getElem?_cons_succ, List.getElem?_cons_zero]; exact rfl
        case hQe11 => exact fun _ _ _ h => h
        case hye11 =>
          refine Or.inl ⟨by rfl, ?_⟩
          intro wS hSw
          go_simp
          try with_reducible rfl
        try simp only [Act.put, List.setIfInBounds_toArray, List.set_cons_zero, List.set_cons_succ]
        refine wpAnyH_done (by kernel_rfl) ?_ _
        clear HS
        go_wp2_with fail
        go_meet
        case rel => exact ⟨_, _, v, t, rfl, rfl, V5, hS, hid (by have h1 := hW.out; have h2 := ovS_W d o.i (rdB d o.fr); omega), hid (by have := hL.out; omega), hid (by have := hG.out; omega), K5⟩
      · as_aux_lemma =>
        obtain ⟨x0, x1, x2, x3, x4, x5, x6, x7, x8, x9⟩ := opg_cells HK2.out
        go_wp2_with fail
        refine (a_destroy HV2.out o.p.k HO.out.p.1 (Nat.le_trans HLL.out (by decide)) (Nat.le_trans HGG.out (by decide))).mono ?_
        rintro e w7 ⟨rfl, hv7, hk7⟩
        have V7 := hid hv7
        have K7 := hid (HK2.out.keep (hk7.2 vb rfl))
        clear hv7 hk7 HV2 HK2 HBT x0 x1 x2 x3 x4 x5 x6 x7 x8 x9
        obtain ⟨A9, c9, B9, d9, hb9, hr9, hB9, hX9, hgo⟩ := r_gone V7.out o.p.k
        have HGO := hid hgo
        have HR9 := hid hr9
        have HE9 := hid hb9
        have HB9 : Hid (∀ x, B9.map (·.block) = some x → x ≠ gw ∧ x ≠ vb) := hid (fun x hx => ⟨(hB9 x hx).1, fun e => (hB9 x hx).2 e⟩)
        have HVE : Hid (vb ≠ gw) := hid (hX9 vb rfl)
        have HVW : Hid (vb < w7.heap.size) := hid K7.out.lt
        have HEW : Hid (gw < w7.heap.size) := hid HE9.out.lt
        have yd : w7.cell? ⟨gw, 1, none⟩ = some (.slice B9 t.G.length d9) := (hb9.cell 1).trans rfl
        clear hb9 hr9 hB9 hX9 hgo V7
        go_wp2_with fail
        generalize hNN : t.G.length = NG at *
        have HNG := hid hNN
        clear hNN
        refine wp_region_held_drew (S := fun wx => wx.heap[vb]? = w7.heap[vb]?) (by kernel_rfl) rfl (fun HS => ?_)
        refine wpAnyH_take (i := 0) (oi := ?oik0) (v := ?vk0) ?hik0 (by kernel_rfl) (by kernel_rfl) (by kernel_rfl) ?hQk0 ?hyk0 HS ?restk0
        case hik0 => simp only [List.getElem?_toArray, List.getElem?_cons_zero]; exact rfl
        case hQk0 => exact fun _ _ _ h => h
        case hyk0 =>
          refine Or.inl ⟨by rfl, ?_⟩
          intro wS hSw
          go_simp
          try with_reducible rfl
        try simp only [Act.put, List.setIfInBounds_toArray, List.set_cons_zero, List.set_cons_succ]
        refine wpAnyH_take (i := 1) (oi := ?oik1) (v := ?vk1) ?hik1 (by kernel_rfl) (by kernel_rfl) (by kernel_rfl) ?hQk1 ?hyk1 HS ?restk1
        case hik1 => simp only [List.getElem?_toArray, List.getElem?_cons_succ, List.getElem?_cons_zero]; exact rfl
        case hQk1 => exact fun _ _ _ h => h
        case hyk1 =>
          refine Or.inl ⟨by rfl, ?_⟩
          intro wS hSw
          go_simp
          try with_reducible rfl
        try simp only [Act.put, List.setIfInBounds_toArray, List.set_cons_zero, List.set_cons_succ]
        refine wpAnyH_take (i := 2) (oi := ?oik2) (v := ?vk2) ?hik2 (by kernel_rfl) (by kernel_rfl) (by kernel_rfl) ?hQk2 ?hyk2 HS ?restk2
        case hik2 => simp only [List.getElem?_toArray, List.getElem?_cons_succ, List.getElem?_cons_zero]; exact rfl
        case hQk2 => exact fun _ _ _ h => h
        case hyk2 =>
          refine Or.inl ⟨by rfl, ?_⟩
          intro wS hSw
          go_simp
          try with_reducible rfl
        try simp only [Act.put, List.setIfInBounds_toArray, List.set_cons_zero, List.set_cons_succ]
        refine wpAnyH_take (i := 3) (oi := ?oik3) (v := ?vk3) ?hik3 (by kernel_rfl) (by kernel_rfl) (by kernel_rfl) ?hQk3 ?hyk3 HS ?restk3
        case hik3 => simp only [List.getElem?_toArray, List.getElem?_cons_succ, List.getElem?_cons_zero]; exact rfl
        case hQk3 => exact fun _ _ _ h => h
        case hyk3 =>
          refine Or.inl ⟨by rfl, ?_⟩
          intro wS hSw
          go_simp
          try with_reducible rfl
        try simp only [Act.put, List.setIfInBounds_toArray, List.set_cons_zero, List.set_cons_succ]
        refine wpAnyH_take (i := 5) (oi := ?oik5) (v := ?vk5) ?hik5 (by kernel_rfl) (by kernel_rfl) (by kernel_rfl) ?hQk5 ?hyk5 HS ?restk5
        case hik5 => simp only [List.getElem?_toArray, List.getElem?_cons_succ, List.getElem?_cons_zero]; exact rfl
        case hQk5 => exact fun _ _ _ h => h
        case hyk5 =>
          refine Or.inl ⟨by rfl, ?_⟩
          intro wS hSw
          go_simp
          try with_reducible rfl
        try simp only [Act.put, List.setIfInBounds_toArray, List.set_cons_zero, List.set_cons_succ]
        refine wpAnyH_take (i := 6) (oi := ?oik6) (v := ?vk6) ?hik6 (by kernel_rfl) (by kernel_rfl) (by kernel_rfl) ?hQk6 ?hyk6 HS ?restk6
        case hik6 => simp only [List.getElem?_toArray, List.getElem?_cons_succ, List.getElem?_cons_zero]; exact rfl
        case hQk6 => exact fun _ _ _ h => h
        case hyk6 =>
          refine Or.inl ⟨by rfl, ?_⟩
          intro wS hSw
          go_simp
          try with_reducible rfl
        try simp only [Act.put, List.setIfInBounds_toArray, List.set_cons_zero, List.set_cons_succ]
        refine wpAnyH_take (i := 7) (oi := ?oik7) (v := ?vk7) ?hik7 (by kernel_rfl) (by kernel_rfl) (by kernel_rfl) ?hQk7 ?hyk7 HS ?restk7
        case hik7 => simp only [List.getElem?_toArray, List.getElem?_cons_succ, List.getElem?_cons_zero]; exact rfl
        case hQk7 => exact fun _ _ _ h => h
        case hyk7 =>
          refine Or.inl ⟨by rfl, ?_⟩
          intro wS hSw
          have hKS := K7.out.keep hSw
          obtain ⟨c0, c1, c2, c3, c4, c5, c6, c7, c8, c9⟩ := opg_cells hKS
          go_simp
          try with_reducible rfl
        try simp only [Act.put, List.setIfInBounds_toArray, List.set_cons_zero, List.set_cons_succ]
        refine wpAnyH_ready (rs := [4, 8]) (by kernel_rfl) (by simp) ?_
        refine (AllReadyH.cons (o := ?ok4) ?hok4 (fun K hK => ?stepk4) (AllReadyH.cons (o := ?ok8) ?hok8 (fun K hK => ?stepk8) AllReadyH.nil))
        case hok4 => simp only [List.getElem?_toArray, List.getElem?_cons_succ, List.getElem?_cons_zero]; exact rfl
        case hok8 => simp only [List.getElem?_toArray, List.getElem?_cons_succ, List.getElem?_cons_zero]; exact rfl
        case stepk4 =>
          rw [if_pos (by rfl)]
          refine wp_load_slice 35 (.tmp 141) rfl 39 Try.underlying35 gw 1 rfl _ ((World.cell?_of_block rfl).trans yd) ?_
          refine hK.out _ _ rfl (fun HS => ?_)
          clear hK K
          try simp only [Act.put, List.setIfInBounds_toArray, List.set_cons_zero, List.set_cons_succ]
          refine wpAnyH_ready (rs := [8]) (by kernel_rfl) (by simp) ?_
          refine AllReadyH.cons (o := ?oka8) ?hoka8 (fun K hK => ?stepka8) AllReadyH.nil
          case hoka8 => simp only [List.getElem?_toArray, List.getElem?_cons_succ, List.getElem?_cons_zero]; exact rfl
          rw [if_pos (by rfl)]
          obtain ⟨ie, hie, hz0, hz1, hz2⟩ := info_parts Try.infoK
          refine wp_buildSlice 35 39 1 _ rfl #[.int .i64 o.p.k.t, .int .i64 o.p.k.c, .int .i64 o.p.k.e] ie _ Try.underlying35 hie hz0 (by rw [hz1]; decide) (by rw [hz1]; decide) (by rw [hz1]; simp only [List.map_toArray, List.map_cons, List.map_nil]; exact filled_key o.p.k) ?_
          clear hie hz0 hz1 hz2
          have HB8 : Hid (Below w7.heap.size w7 (w7.drew.alloc (.cells #[.int .i64 o.p.k.t, .int .i64 o.p.k.c, .int .i64 o.p.k.e] 39))) := hid ((Below.refl _ _).drew.alloc (Nat.le_refl _) _)
          have HQ8 := hid (blk_range (Blk.new w7.drew 39 #[.int .i64 o.p.k.t, .int .i64 o.p.k.c, .int .i64 o.p.k.e]))
          generalize hq8 : w7.drew.heap.size = q8 at *
          generalize hw8 : w7.drew.alloc (.cells #[.int .i64 o.p.k.t, .int .i64 o.p.k.c, .int .i64 o.p.k.e] 39) = w8 at *
          clear hw8 hq8
          refine hK.out _ _ (HB8.out.block vb HVW.out) (fun HS => ?_)
          clear hK K
          try simp only [Act.put, List.setIfInBounds_toArray, List.set_cons_zero, List.set_cons_succ]
          refine wpAnyH_ready (rs := [9]) (by kernel_rfl) (by simp) ?_
          refine AllReadyH.cons (o := ?okb9) ?hokb9 (fun K hK => ?stepkb9) AllReadyH.nil
          case hokb9 => simp only [List.getElem?_toArray, List.getElem?_cons_succ, List.getElem?_cons_zero]; exact rfl
          rw [if_pos (by rfl)]
          obtain ⟨B5, d5, w5, hrun5, ho5, -, hg5, hl5⟩ := run_append_L (P := Try.prog) w8 35 35 39 _ 3 24 Try.underlying35 Try.infoK rfl (by decide) 0 B9 NG d9 (kcs t.G) (own_keep (by have := HR9.out; unfold KRow at this; rw [HNG.out] at this; exact this) fun d hd => HB8.out.block d (own_lt (by have := HR9.out; unfold KRow at this; rw [HNG.out] at this; exact this) d hd)) (some ⟨q8, 0, none⟩) 1 1 o.p.k.cells rfl (fun _ => ⟨q8, 0, rfl, HQ8.out⟩) (ky_cell _) (by have := HTG.out; omega) (by have := HTG.out; unfold maxLen; omega) (Nat.zero_le _)
          have ho5' : KRow w5 B5 d5 (t.G ++ [o.p.k]) := by unfold KRow; rw [List.length_append, kcs_app, kcs_one, HNG.out]; exact ho5
          obtain ⟨t5, k5⟩ := HGO.out w8 w5 B5 d5 HB8.out hg5 ho5' hl5
          rw [List.length_append, HNG.out] at t5 k5
          have T5 := hid t5
          have K5 : Hid (Blk (w5.setCell ⟨gw, 1, none⟩ (.slice B5 (NG + 1) d5)) vb 45 #[.int .i64 (o).kind, .int .i64 (o).i, .int .i64 (o).fr, .int .i64 (o).p.k.t, .int .i64 (o).p.k.c, .int .i64 (o).p.k.e, .int .i64 (o).p.id, .int .i64 (o).p.ver, .slice (o).BA (o).Bn (o).Bc, .slice (o).KA (o).Kn (o).Kc]) := hid (K7.out.keep (k5.2 vb rfl))
          refine wp_append_run 35 _ _ rfl _ _ _ rfl rfl hrun5 ?_
          have eg5 : w5.heap[gw]? = w7.heap[gw]? := (hg5.block gw (Nat.lt_of_lt_of_le HEW.out HB8.out.size) (fun e => (HB9.out gw e.symm).1 rfl)).trans (HB8.out.block gw HEW.out)
          have HS5 : Hid (w5.heap[vb]? = w7.heap[vb]?) := hid ((hg5.block vb (Nat.lt_of_lt_of_le HVW.out HB8.out.size) (fun e => (HB9.out vb e.symm).2 rfl)).trans (HB8.out.block vb HVW.out))
          have f5 := (HE9.out.keep eg5).frozen 1
          have u0 := (HE9.out.keep eg5).cell 1
          simp only [List.getElem?_toArray, List.getElem?_cons_zero, List.getElem?_cons_succ] at u0
          clear ho5 ho5' hg5 hl5 hrun5 eg5 t5 k5
          refine hK.out _ _ HS5.out (fun HS => ?_)
          clear hK K
          try simp only [Act.put, List.setIfInBounds_toArray, List.set_cons_zero, List.set_cons_succ]
          refine wpAnyH_take (i := 10) (oi := ?oikb10) (v := ?vkb10) ?hikb10 (by kernel_rfl) (by kernel_rfl) (by kernel_rfl) ?hQkb10 ?hykb10 HS ?restkb10
          case hikb10 => simp only [List.getElem?_toArray, List.getElem?_cons_succ, List.getElem?_cons_zero]; exact rfl
          case hQkb10 => exact fun _ _ _ h => h
          case hykb10 =>
            refine Or.inl ⟨by rfl, ?_⟩
            intro wS hSw
            go_simp
            try with_reducible rfl
          try simp only [Act.put, List.setIfInBounds_toArray, List.set_cons_zero, List.set_cons_succ]
          refine wpAnyH_take (i := 11) (oi := ?oikb11) (v := ?vkb11) ?hikb11 (by kernel_rfl) (by kernel_rfl) (by kernel_rfl) ?hQkb11 ?hykb11 HS ?restkb11
          case hikb11 => simp only [List.getElem?_toArray, List.getElem?_cons_succ, List.getElem?_cons_zero]; exact rfl
          case hQkb11 => exact fun _ _ _ h => h
          case hykb11 =>
            refine Or.inl ⟨by rfl, ?_⟩
            intro wS hSw
            go_simp
            try with_reducible rfl
          try simp only [Act.put, List.setIfInBounds_toArray, List.set_cons_zero, List.set_cons_succ]
          refine wpAnyH_ready (rs := [12]) (by kernel_rfl) (by simp) ?_
          refine AllReadyH.cons (o := ?okb12) ?hokb12 (fun K hK => ?stepkb12) AllReadyH.nil
          case hokb12 => simp only [List.getElem?_toArray, List.getElem?_cons_succ, List.getElem?_cons_zero]; exact rfl
          go_simp
          refine hK.out _ _ ((Below.heap_setCell w5 ⟨gw, 1, none⟩ _ vb (fun e => HVE.out e)).trans HS5.out) (fun HS => ?_)
          clear hK K
          try simp only [Act.put]
          refine wpAnyH_done (by kernel_rfl) ?_ _
          clear HS yd u0 f5
          go_wp2_with fail
          go_meet
          case rel => exact ⟨0, d, _, _, rfl, rfl, T5, hid (hS.out.destroy o.p.k), hid (by have := hW.out; omega), hid (by show (v.L.map (wipe o.p.k)).length ≤ _; rw [List.length_map]; have := hL.out; omega), hid (by show (v.G ++ [o.p.k]).length ≤ _; rw [List.length_append]; have := hG.out; simp; omega), K5⟩
        case stepk8 =>
          rw [if_pos (by rfl)]
          obtain ⟨ie, hie, hz0, hz1, hz2⟩ := info_parts Try.infoK
          refine wp_buildSlice 35 39 1 _ rfl #[.int .i64 o.p.k.t, .int .i64 o.p.k.c, .int .i64 o.p.k.e] ie _ Try.underlying35 hie hz0 (by rw [hz1]; decide) (by rw [hz1]; decide) (by rw [hz1]; simp only [List.map_toArray, List.map_cons, List.map_nil]; exact filled_key o.p.k) ?_
          clear hie hz0 hz1 hz2
          have HB8 : Hid (Below w7.heap.size w7 (w7.drew.alloc (.cells #[.int .i64 o.p.k.t, .int .i64 o.p.k.c, .int .i64 o.p.k.e] 39))) := hid ((Below.refl _ _).drew.alloc (Nat.le_refl _) _)
          have HQ8 := hid (blk_range (Blk.new w7.drew 39 #[.int .i64 o.p.k.t, .int .i64 o.p.k.c, .int .i64 o.p.k.e]))
          generalize hq8 : w7.drew.heap.size = q8 at *
          generalize hw8 : w7.drew.alloc (.cells #[.int .i64 o.p.k.t, .int .i64 o.p.k.c, .int .i64 o.p.k.e] 39) = w8 at *
          clear hw8 hq8
          refine hK.out _ _ (HB8.out.block vb HVW.out) (fun HS => ?_)
          clear hK K
          try simp only [Act.put, List.setIfInBounds_toArray, List.set_cons_zero, List.set_cons_succ]
          refine wpAnyH_ready (rs := [4]) (by kernel_rfl) (by simp) ?_
          refine AllReadyH.cons (o := ?okc4) ?hokc4 (fun K hK => ?stepkc4) AllReadyH.nil
          case hokc4 => simp only [List.getElem?_toArray, List.getElem?_cons_succ, List.getElem?_cons_zero]; exact rfl
          rw [if_pos (by rfl)]
          refine wp_load_slice 35 (.tmp 141) rfl 39 Try.underlying35 gw 1 rfl _ ((World.cell?_of_block (HB8.out.block gw HEW.out)).trans yd) ?_
          refine hK.out _ _ (HB8.out.block vb HVW.out) (fun HS => ?_)
          clear hK K
          try simp only [Act.put, List.setIfInBounds_toArray, List.set_cons_zero, List.set_cons_succ]
          refine wpAnyH_ready (rs := [9]) (by kernel_rfl) (by simp) ?_
          refine AllReadyH.cons (o := ?okd9) ?hokd9 (fun K hK => ?stepkd9) AllReadyH.nil
          case hokd9 => simp only [List.getElem?_toArray, List.getElem?_cons_succ, List.getElem?_cons_zero]; exact rfl
          rw [if_pos (by rfl)]
          obtain ⟨B5, d5, w5, hrun5, ho5, -, hg5, hl5⟩ := run_append_L (P := Try.prog) w8 35 35 39 _ 3 24 Try.underlying35 Try.infoK rfl (by decide) 0 B9 NG d9 (kcs t.G) (own_keep (by have := HR9.out; unfold KRow at this; rw [HNG.out] at this; exact this) fun d hd => HB8.out.block d (own_lt (by have := HR9.out; unfold KRow at this; rw [HNG.out] at this; exact this) d hd)) (some ⟨q8, 0, none⟩) 1 1 o.p.k.cells rfl (fun _ => ⟨q8, 0, rfl, HQ8.out⟩) (ky_cell _) (by have := HTG.out; omega) (by have := HTG.out; unfold maxLen; omega) (Nat.zero_le _)
          have ho5' : KRow w5 B5 d5 (t.G ++ [o.p.k]) := by unfold KRow; rw [List.length_append, kcs_app, kcs_one, HNG.out]; exact ho5
          obtain ⟨t5, k5⟩ := HGO.out w8 w5 B5 d5 HB8.out hg5 ho5' hl5
          rw [List.length_append, HNG.out] at t5 k5
          have T5 := hid t5
          have K5 : Hid (Blk (w5.setCell ⟨gw, 1, none⟩ (.slice B5 (NG + 1) d5)) vb 45 #[.int .i64 (o).kind, .int .i64 (o).i, .int .i64 (o).fr, .int .i64 (o).p.k.t, .int .i64 (o).p.k.c, .int .i64 (o).p.k.e, .int .i64 (o).p.id, .int .i64 (o).p.ver, .slice (o).BA (o).Bn (o).Bc, .slice (o).KA (o).Kn (o).Kc]) := hid (K7.out.keep (k5.2 vb rfl))
          refine wp_append_run 35 _ _ rfl _ _ _ rfl rfl hrun5 ?_
          have eg5 : w5.heap[gw]? = w7.heap[gw]? := (hg5.block gw (Nat.lt_of_lt_of_le HEW.out HB8.out.size) (fun e => (HB9.out gw e.symm).1 rfl)).trans (HB8.out.block gw HEW.out)
          have HS5 : Hid (w5.heap[vb]? = w7.heap[vb]?) := hid ((hg5.block vb (Nat.lt_of_lt_of_le HVW.out HB8.out.size) (fun e => (HB9.out vb e.symm).2 rfl)).trans (HB8.out.block vb HVW.out))
          have f5 := (HE9.out.keep eg5).frozen 1
          have u0 := (HE9.out.keep eg5).cell 1
          simp only [List.getElem?_toArray, List.getElem?_cons_zero, List.getElem?_cons_succ] at u0
          clear ho5 ho5' hg5 hl5 hrun5 eg5 t5 k5
          refine hK.out _ _ HS5.out (fun HS => ?_)
          clear hK K
          try simp only [Act.put, List.setIfInBounds_toArray, List.set_cons_zero, List.set_cons_succ]
          refine wpAnyH_take (i := 10) (oi := ?oikd10) (v := ?vkd10) ?hikd10 (by kernel_rfl) (by kernel_rfl) (by kernel_rfl) ?hQkd10 ?hykd10 HS ?restkd10
          case hikd10 => simp only [List.getElem?_toArray, List.getElem?_cons_succ, List.getElem?_cons_zero]; exact rfl
          case hQkd10 => exact fun _ _ _ h => h
          case hykd10 =>
            refine Or.inl ⟨by rfl, ?_⟩
            intro wS hSw
            go_simp
            try with_reducible rfl
          try simp only [Act.put, List.setIfInBounds_toArray, List.set_cons_zero, List.set_cons_succ]
          refine wpAnyH_take (i := 11) (oi := ?oikd11) (v := ?vkd11) ?hikd11 (by kernel_rfl) (by kernel_rfl) (by kernel_rfl) ?hQkd11 ?hykd11 HS ?restkd11
          case hikd11 => simp only [List.getElem?_toArray, List.getElem?_cons_succ, List.getElem?_cons_zero]; exact rfl
          case hQkd11 => exact fun _ _ _ h => h
          case hykd11 =>
            refine Or.inl ⟨by rfl, ?_⟩
            intro wS hSw
            go_simp
            try with_reducible rfl
          try simp only [Act.put, List.setIfInBounds_toArray, List.set_cons_zero, List.set_cons_succ]
          refine wpAnyH_ready (rs := [12]) (by kernel_rfl) (by simp) ?_
          refine AllReadyH.cons (o := ?okd12) ?hokd12 (fun K hK => ?stepkd12) AllReadyH.nil
          case hokd12 => simp only [List.getElem?_toArray, List.getElem?_cons_succ, List.getElem?_cons_zero]; exact rfl
          go_simp
          refine hK.out _ _ ((Below.heap_setCell w5 ⟨gw, 1, none⟩ _ vb (fun e => HVE.out e)).trans HS5.out) (fun HS => ?_)
          clear hK K
          try simp only [Act.put]
          refine wpAnyH_done (by kernel_rfl) ?_ _
          clear HS yd u0 f5
          go_wp2_with fail
          go_meet
          case rel => exact ⟨0, d, _, _, rfl, rfl, T5, hid (hS.out.destroy o.p.k), hid (by have := hW.out; omega), hid (by show (v.L.map (wipe o.p.k)).length ≤ _; rw [List.length_map]; have := hL.out; omega), hid (by show (v.G ++ [o.p.k]).length ≤ _; rw [List.length_append]; have := hG.out; simp; omega), K5⟩
      · as_aux_lemma =>
        obtain ⟨x0, x1, x2, x3, x4, x5, x6, x7, x8, x9⟩ := opg_cells HK2.out
        go_wp2_with fail
        refine (a_crash HV2.out o.KA o.Kn o.Kc o.ks HKT.out (Nat.le_trans HWW.out (by decide))).mono ?_
        rintro e w4 ⟨rfl, hv4, hk4⟩
        have V4 := hid hv4
        have K4 := hid (HK2.out.keep (hk4.2 vb rfl))
        have HKT4 : Hid (Lst w4 0 w.heap.size o.KA o.Kn (o.ks.map .bool)) := hid (HO.out.k.below hv4.below (Nat.le_refl _))
        clear hv4 hk4 HV2 HK2 HBT HKT x0 x1 x2 x3 x4 x5 x6 x7 x8 x9
        obtain ⟨x0, x1, x2, x3, x4, x5, x6, x7, x8, x9⟩ := opg_cells K4.out
        go_wp2_with fail
        refine (r_crash V4.out o.KA o.Kn o.Kc o.ks HKT4.out (Nat.le_trans HWW.out (by decide))).mono ?_
        rintro e w5 ⟨rfl, hv5, hk5⟩
        have V5 := hid hv5
        have K5 := hid (K4.out.keep (hk5.2 vb rfl))
        clear hv5 hk5 V4 K4 HKT4 x0 x1 x2 x3 x4 x5 x6 x7 x8 x9
        go_wp2_with fail
        go_meet
        case rel => exact ⟨0, _, v, t, rfl, rfl, V5, hS, hid (Nat.zero_le _), hid (by have := hL.out; omega), hid (by have := hG.out; omega), K5⟩
      · as_aux_lemma =>
        obtain ⟨x0, x1, x2, x3, x4, x5, x6, x7, x8, x9⟩ := opg_cells HK2.out
        go_wp2_with fail
        refine (a_sync HV2.out (Nat.le_trans HWW.out (by decide))).mono ?_
        rintro e w4 ⟨rfl, hv4, hk4⟩
        have V4 := hid hv4
        have K4 := hid (HK2.out.keep (hk4.2 vb rfl))
        clear hv4 hk4 HV2 HK2 HBT x0 x1 x2 x3 x4 x5 x6 x7 x8 x9
        go_wp2_with fail
        refine (r_sync V4.out (Nat.le_trans HWW.out (by decide))).mono ?_
        rintro e w5 ⟨rfl, hv5, hk5⟩
        have V5 := hid hv5
        have K5 := hid (K4.out.keep (hk5.2 vb rfl))
        clear hv5 hk5 V4 K4
        go_wp2_with fail
        go_meet
        case rel => exact ⟨_, _, v, t, rfl, rfl, V5, hS, hid (by have h1 := hW.out; have h2 := syS_W d; omega), hid (by have := hL.out; omega), hid (by have := hG.out; omega), K5⟩
      · as_aux_lemma =>
        obtain ⟨x0, x1, x2, x3, x4, x5, x6, x7, x8, x9⟩ := opg_cells HK2.out
        go_wp2_with fail
        refine (a_limit HV2.out o.i HO.out.i1.2).mono ?_
        rintro e w4 ⟨rfl, hv4, hk4⟩
        have V4 := hid hv4
        have K4 := hid (HK2.out.keep (hk4.2 vb rfl))
        clear hv4 hk4 HV2 HK2 HBT x0 x1 x2 x3 x4 x5 x6 x7 x8 x9
        obtain ⟨x0, x1, x2, x3, x4, x5, x6, x7, x8, x9⟩ := opg_cells K4.out
        go_wp2_with fail
        refine (r_bound V4.out o.i HO.out.i1.2).mono ?_
        rintro e w5 ⟨rfl, hv5, hk5⟩
        have V5 := hid hv5
        have K5 := hid (K4.out.keep (hk5.2 vb rfl))
        clear hv5 hk5 V4 K4 x0 x1 x2 x3 x4 x5 x6 x7 x8 x9
        go_wp2_with fail
        go_meet
        case rel => exact ⟨0, _, v, t, rfl, rfl, V5, hS, hid (show d.W.length ≤ _ by have := hW.out; omega), hid (by have := hL.out; omega), hid (by have := hG.out; omega), K5⟩
    case rest =>
    obtain ⟨z, d2, v2, t2, rfl, rfl, hV, hS2, hW2, hL2, hG2, hK⟩ := hcut
    clear HV2 HK2 HWW HLL HGG HTL HTG HBT HKT hkm HKD
    as_aux_lemma =>
    obtain ⟨x0, x1, x2, x3, x4, x5, x6, x7, x8, x9⟩ := opg_cells hK.out
    go_wp2_with fail
    refine (a_read hV.out o.p HO.out.p o.i HO.out.i1).mono ?_
    rintro e w4 ⟨A4, n4, c4, rfl, ho4, -, hb4⟩
    rw [hS2.out.prE]
    rw [hS2.out.prB] at ho4
    have V4 := hid (hV.out.go (All.ok _ _ _ _ _ _ _ _) hb4)
    have K4 := hid (hK.out.keep (hb4.block vb hK.out.lt))
    have O4 := hid ho4
    clear ho4 hb4 hV hK x0 x1 x2 x3 x4 x5 x6 x7 x8 x9
    obtain ⟨x0, x1, x2, x3, x4, x5, x6, x7, x8, x9⟩ := opg_cells K4.out
    go_wp2_with fail
    refine (r_read V4.out o.p HO.out.p o.i HO.out.i1 (by have := hW2.out; have := HJ.out; omega) (by have h1 := hG2.out; rw [hS2.out.G] at h1; have := HJ.out; omega) (by have h1 := hL2.out; rw [hS2.out.len] at h1; have := HJ.out; omega)).mono ?_
    rintro e w5 ⟨rfl, hb5⟩
    have V5 := hid ((V4.out.go (All.ok _ _ _ _ _ _ _ _) hb5).go (All.ok _ _ _ _ _ _ _ _) (wr' := w5.drew) ((Below.refl _ _).drew))
    have ho5 : w5.drew.ownsRow _ 5 1 (.slice A4 n4 c4) n4 (bs (prB d2 t2 o.i o.p)) := own_keep O4.out fun x hx => hb5.block x (own_lt O4.out x hx)
    have hcv := own_str ho5 (c := c4)
    obtain ⟨A9, c9, f0⟩ := r_look V5.out
    have hcw := a_sealed V5.out
    rw [hS2.out.len] at hcw
    clear ho5 hb5 O4 V4 K4 x0 x1 x2 x3 x4 x5 x6 x7 x8 x9
    generalize prB d2 t2 o.i o.p = zs at *
    generalize prE d2 t2 o.i o.p = ze at *
    generalize hM : t2.L.length = M at *
    have HM := hid hM
    clear hM
    have hn1 : (z != z) = false := by simp
    have hn2 : (ze != ze) = false := by simp
    have hn3 : ((M : Int) != (M : Int)) = false := by simp
    have hn4 : ((str zs).toList == (str zs).toList) = true := by simp
    go_wp2_with fail
    refine wp_region_held_drew (S := fun wx => wx = w5.drew) (by kernel_rfl) rfl (fun HS => ?_)
    generalize w5.drew = w9 at *
    refine wpAnyH_take (i := 0) (oi := ?oix0) (v := ?vx0) ?hix0 (by kernel_rfl) (by kernel_rfl) (by kernel_rfl) ?hQx0 ?hyx0 HS ?restx0
    case hix0 => simp only [List.getElem?_toArray, List.getElem?_cons_zero]; exact rfl
    case hQx0 => exact fun _ _ _ h => h
    case hyx0 =>
      refine Or.inl ⟨by rfl, ?_⟩
      intro wS hSw
      go_simp
      try with_reducible rfl
    try simp only [Act.put, List.setIfInBounds_toArray, List.set_cons_zero, List.set_cons_succ]
    refine wpAnyH_take (i := 1) (oi := ?oix1) (v := ?vx1) ?hix1 (by kernel_rfl) (by kernel_rfl) (by kernel_rfl) ?hQx1 ?hyx1 HS ?restx1
    case hix1 => simp only [List.getElem?_toArray, List.getElem?_cons_succ, List.getElem?_cons_zero]; exact rfl
    case hQx1 => exact fun _ _ _ h => h
    case hyx1 =>
      refine Or.inl ⟨by rfl, ?_⟩
      intro wS hSw
      go_simp
      try with_reducible rfl
    try simp only [Act.put, List.setIfInBounds_toArray, List.set_cons_zero, List.set_cons_succ]
    refine wpAnyH_take (i := 2) (oi := ?oix2) (v := ?vx2) ?hix2 (by kernel_rfl) (by kernel_rfl) (by kernel_rfl) ?hQx2 ?hyx2 HS ?restx2
    case hix2 => simp only [List.getElem?_toArray, List.getElem?_cons_succ, List.getElem?_cons_zero]; exact rfl
    case hQx2 => exact fun _ _ _ h => h
    case hyx2 =>
      refine Or.inl ⟨by rfl, ?_⟩
      intro wS hSw
      go_simp
      try with_reducible rfl
    try simp only [Act.put, List.setIfInBounds_toArray, List.set_cons_zero, List.set_cons_succ]
    refine wpAnyH_take (i := 3) (oi := ?oix3) (v := ?vx3) ?hix3 (by kernel_rfl) (by kernel_rfl) (by kernel_rfl) ?hQx3 ?hyx3 HS ?restx3
    case hix3 => simp only [List.getElem?_toArray, List.getElem?_cons_succ, List.getElem?_cons_zero]; exact rfl
    case hQx3 => exact fun _ _ _ h => h
    case hyx3 =>
      refine Or.inl ⟨by rfl, ?_⟩
      intro wS hSw
      go_simp
      try with_reducible rfl
    try simp only [Act.put, List.setIfInBounds_toArray, List.set_cons_zero, List.set_cons_succ]
    refine wpAnyH_take (i := 4) (oi := ?oix4) (v := ?vx4) ?hix4 (by kernel_rfl) (by kernel_rfl) (by kernel_rfl) ?hQx4 ?hyx4 HS ?restx4
    case hix4 => simp only [List.getElem?_toArray, List.getElem?_cons_succ, List.getElem?_cons_zero]; exact rfl
    case hQx4 => exact fun _ _ _ h => h
    case hyx4 =>
      refine Or.inl ⟨by rfl, ?_⟩
      intro wS hSw
      go_simp
      try with_reducible rfl
    try simp only [Act.put, List.setIfInBounds_toArray, List.set_cons_zero, List.set_cons_succ]
    refine wpAnyH_take (i := 5) (oi := ?oix5) (v := ?vx5) ?hix5 (by kernel_rfl) (by kernel_rfl) (by kernel_rfl) ?hQx5 ?hyx5 HS ?restx5
    case hix5 => simp only [List.getElem?_toArray, List.getElem?_cons_succ, List.getElem?_cons_zero]; exact rfl
    case hQx5 => exact fun _ _ _ h => h
    case hyx5 =>
      refine Or.inl ⟨by rfl, ?_⟩
      intro wS hSw
      subst hSw
      go_simp
      try with_reducible rfl
    try simp only [Act.put, List.setIfInBounds_toArray, List.set_cons_zero, List.set_cons_succ]
    refine wpAnyH_take (i := 6) (oi := ?oix6) (v := ?vx6) ?hix6 (by kernel_rfl) (by kernel_rfl) (by kernel_rfl) ?hQx6 ?hyx6 HS ?restx6
    case hix6 => simp only [List.getElem?_toArray, List.getElem?_cons_succ, List.getElem?_cons_zero]; exact rfl
    case hQx6 => exact fun _ _ _ h => h
    case hyx6 =>
      refine Or.inl ⟨by rfl, ?_⟩
      intro wS hSw
      go_simp
      try with_reducible rfl
    try simp only [Act.put, List.setIfInBounds_toArray, List.set_cons_zero, List.set_cons_succ]
    refine wpAnyH_take (i := 7) (oi := ?oix7) (v := ?vx7) ?hix7 (by kernel_rfl) (by kernel_rfl) (by kernel_rfl) ?hQx7 ?hyx7 HS ?restx7
    case hix7 => simp only [List.getElem?_toArray, List.getElem?_cons_succ, List.getElem?_cons_zero]; exact rfl
    case hQx7 => exact fun _ _ _ h => h
    case hyx7 =>
      refine Or.inl ⟨by rfl, ?_⟩
      intro wS hSw
      go_simp
      try with_reducible rfl
    try simp only [Act.put, List.setIfInBounds_toArray, List.set_cons_zero, List.set_cons_succ]
    refine wpAnyH_take (i := 8) (oi := ?oix8) (v := ?vx8) ?hix8 (by kernel_rfl) (by kernel_rfl) (by kernel_rfl) ?hQx8 ?hyx8 HS ?restx8
    case hix8 => simp only [List.getElem?_toArray, List.getElem?_cons_succ, List.getElem?_cons_zero]; exact rfl
    case hQx8 => exact fun _ _ _ h => h
    case hyx8 =>
      refine Or.inl ⟨by rfl, ?_⟩
      intro wS hSw
      go_simp
      try with_reducible rfl
    try simp only [Act.put, List.setIfInBounds_toArray, List.set_cons_zero, List.set_cons_succ]
    refine wpAnyH_take (i := 9) (oi := ?oix9) (v := ?vx9) ?hix9 (by kernel_rfl) (by kernel_rfl) (by kernel_rfl) ?hQx9 ?hyx9 HS ?restx9
    case hix9 => simp only [List.getElem?_toArray, List.getElem?_cons_succ, List.getElem?_cons_zero]; exact rfl
    case hQx9 => exact fun _ _ _ h => h
    case hyx9 =>
      refine Or.inl ⟨by rfl, ?_⟩
      intro wS hSw
      go_simp
      try with_reducible rfl
    try simp only [Act.put, List.setIfInBounds_toArray, List.set_cons_zero, List.set_cons_succ]
    refine wpAnyH_take (i := 10) (oi := ?oix10) (v := ?vx10) ?hix10 (by kernel_rfl) (by kernel_rfl) (by kernel_rfl) ?hQx10 ?hyx10 HS ?restx10
    case hix10 => simp only [List.getElem?_toArray, List.getElem?_cons_succ, List.getElem?_cons_zero]; exact rfl
    case hQx10 => exact fun _ _ _ h => h
    case hyx10 =>
      refine Or.inl ⟨by rfl, ?_⟩
      intro wS hSw
      go_simp
      try with_reducible rfl
    try simp only [Act.put, List.setIfInBounds_toArray, List.set_cons_zero, List.set_cons_succ]
    refine wpAnyH_take (i := 11) (oi := ?oix11) (v := ?vx11) ?hix11 (by kernel_rfl) (by kernel_rfl) (by kernel_rfl) ?hQx11 ?hyx11 HS ?restx11
    case hix11 => simp only [List.getElem?_toArray, List.getElem?_cons_succ, List.getElem?_cons_zero]; exact rfl
    case hQx11 => exact fun _ _ _ h => h
    case hyx11 =>
      refine Or.inl ⟨by rfl, ?_⟩
      intro wS hSw
      go_simp
      try with_reducible rfl
    try simp only [Act.put, List.setIfInBounds_toArray, List.set_cons_zero, List.set_cons_succ]
    refine wpAnyH_take (i := 12) (oi := ?oix12) (v := ?vx12) ?hix12 (by kernel_rfl) (by kernel_rfl) (by kernel_rfl) ?hQx12 ?hyx12 HS ?restx12
    case hix12 => simp only [List.getElem?_toArray, List.getElem?_cons_succ, List.getElem?_cons_zero]; exact rfl
    case hQx12 => exact fun _ _ _ h => h
    case hyx12 =>
      refine Or.inl ⟨by rfl, ?_⟩
      intro wS hSw
      go_simp
      try with_reducible rfl
    try simp only [Act.put, List.setIfInBounds_toArray, List.set_cons_zero, List.set_cons_succ]
    refine wpAnyH_take (i := 13) (oi := ?oix13) (v := ?vx13) ?hix13 (by kernel_rfl) (by kernel_rfl) (by kernel_rfl) ?hQx13 ?hyx13 HS ?restx13
    case hix13 => simp only [List.getElem?_toArray, List.getElem?_cons_succ, List.getElem?_cons_zero]; exact rfl
    case hQx13 => exact fun _ _ _ h => h
    case hyx13 =>
      refine Or.inl ⟨by rfl, ?_⟩
      intro wS hSw
      go_simp
      try with_reducible rfl
    try simp only [Act.put, List.setIfInBounds_toArray, List.set_cons_zero, List.set_cons_succ]
    refine wpAnyH_take (i := 14) (oi := ?oix14) (v := ?vx14) ?hix14 (by kernel_rfl) (by kernel_rfl) (by kernel_rfl) ?hQx14 ?hyx14 HS ?restx14
    case hix14 => simp only [List.getElem?_toArray, List.getElem?_cons_succ, List.getElem?_cons_zero]; exact rfl
    case hQx14 => exact fun _ _ _ h => h
    case hyx14 =>
      refine Or.inl ⟨by rfl, ?_⟩
      intro wS hSw
      go_simp
      try with_reducible rfl
    try simp only [Act.put, List.setIfInBounds_toArray, List.set_cons_zero, List.set_cons_succ]
    refine wpAnyH_take (i := 15) (oi := ?oix15) (v := ?vx15) ?hix15 (by kernel_rfl) (by kernel_rfl) (by kernel_rfl) ?hQx15 ?hyx15 HS ?restx15
    case hix15 => simp only [List.getElem?_toArray, List.getElem?_cons_succ, List.getElem?_cons_zero]; exact rfl
    case hQx15 => exact fun _ _ _ h => h
    case hyx15 =>
      refine Or.inl ⟨by rfl, ?_⟩
      intro wS hSw
      go_simp
      try with_reducible rfl
    try simp only [Act.put, List.setIfInBounds_toArray, List.set_cons_zero, List.set_cons_succ]
    refine wpAnyH_take (i := 17) (oi := ?oix17) (v := ?vx17) ?hix17 (by kernel_rfl) (by kernel_rfl) (by kernel_rfl) ?hQx17 ?hyx17 HS ?restx17
    case hix17 => simp only [List.getElem?_toArray, List.getElem?_cons_succ, List.getElem?_cons_zero]; exact rfl
    case hQx17 => exact fun _ _ _ h => h
    case hyx17 =>
      refine Or.inl ⟨by rfl, ?_⟩
      intro wS hSw
      go_simp
      try with_reducible rfl
    try simp only [Act.put, List.setIfInBounds_toArray, List.set_cons_zero, List.set_cons_succ]
    refine wpAnyH_take (i := 18) (oi := ?oix18) (v := ?vx18) ?hix18 (by kernel_rfl) (by kernel_rfl) (by kernel_rfl) ?hQx18 ?hyx18 HS ?restx18
    case hix18 => simp only [List.getElem?_toArray, List.getElem?_cons_succ, List.getElem?_cons_zero]; exact rfl
    case hQx18 => exact fun _ _ _ h => h
    case hyx18 =>
      refine Or.inl ⟨by rfl, ?_⟩
      intro wS hSw
      go_simp
      try with_reducible rfl
    try simp only [Act.put, List.setIfInBounds_toArray, List.set_cons_zero, List.set_cons_succ]
    refine wpAnyH_take (i := 19) (oi := ?oix19) (v := ?vx19) ?hix19 (by kernel_rfl) (by kernel_rfl) (by kernel_rfl) ?hQx19 ?hyx19 HS ?restx19
    case hix19 => simp only [List.getElem?_toArray, List.getElem?_cons_succ, List.getElem?_cons_zero]; exact rfl
    case hQx19 => exact fun _ _ _ h => h
    case hyx19 =>
      refine Or.inl ⟨by rfl, ?_⟩
      intro wS hSw
      go_simp
      try with_reducible rfl
    try simp only [Act.put, List.setIfInBounds_toArray, List.set_cons_zero, List.set_cons_succ]
    refine wpAnyH_take (i := 20) (oi := ?oix20) (v := ?vx20) ?hix20 (by kernel_rfl) (by kernel_rfl) (by kernel_rfl) ?hQx20 ?hyx20 HS ?restx20
    case hix20 => simp only [List.getElem?_toArray, List.getElem?_cons_succ, List.getElem?_cons_zero]; exact rfl
    case hQx20 => exact fun _ _ _ h => h
    case hyx20 =>
      refine Or.inl ⟨by rfl, ?_⟩
      intro wS hSw
      subst hSw
      go_simp
      try with_reducible rfl
    try simp only [Act.put, List.setIfInBounds_toArray, List.set_cons_zero, List.set_cons_succ]
    refine wpAnyH_take (i := 21) (oi := ?oix21) (v := ?vx21) ?hix21 (by kernel_rfl) (by kernel_rfl) (by kernel_rfl) ?hQx21 ?hyx21 HS ?restx21
    case hix21 => simp only [List.getElem?_toArray, List.getElem?_cons_succ, List.getElem?_cons_zero]; exact rfl
    case hQx21 => exact fun _ _ _ h => h
    case hyx21 =>
      refine Or.inl ⟨by rfl, ?_⟩
      intro wS hSw
      go_simp
      try with_reducible rfl
    try simp only [Act.put, List.setIfInBounds_toArray, List.set_cons_zero, List.set_cons_succ]
    refine wpAnyH_ready (rs := [16]) (by kernel_rfl) (by simp) ?_
    refine AllReadyH.cons (o := ?ox16) ?hox16 (fun K hK => ?stepx16) AllReadyH.nil
    case hox16 => simp only [List.getElem?_toArray, List.getElem?_cons_succ, List.getElem?_cons_zero]; exact rfl
    go_simp
    refine hcw.mono ?_
    rintro e wa ⟨rfl, rfl⟩
    refine hK.out _ _ HS (fun HS => ?_)
    clear hK K
    try simp only [Act.put, List.setIfInBounds_toArray, List.set_cons_zero, List.set_cons_succ]
    refine wpAnyH_take (i := 22) (oi := ?oix22) (v := ?vx22) ?hix22 (by kernel_rfl) (by kernel_rfl) (by kernel_rfl) ?hQx22 ?hyx22 HS ?restx22
    case hix22 => simp only [List.getElem?_toArray, List.getElem?_cons_succ, List.getElem?_cons_zero]; exact rfl
    case hQx22 => exact fun _ _ _ h => h
    case hyx22 =>
      refine Or.inl ⟨by rfl, ?_⟩
      intro wS hSw
      go_simp
      try with_reducible rfl
    try simp only [Act.put, List.setIfInBounds_toArray, List.set_cons_zero, List.set_cons_succ]
    refine wpAnyH_take (i := 23) (oi := ?oix23) (v := ?vx23) ?hix23 (by kernel_rfl) (by kernel_rfl) (by kernel_rfl) ?hQx23 ?hyx23 HS ?restx23
    case hix23 => simp only [List.getElem?_toArray, List.getElem?_cons_succ, List.getElem?_cons_zero]; exact rfl
    case hQx23 => exact fun _ _ _ h => h
    case hyx23 =>
      refine Or.inl ⟨by rfl, ?_⟩
      intro wS hSw
      go_simp
      try with_reducible rfl
    try simp only [Act.put, List.setIfInBounds_toArray, List.set_cons_zero, List.set_cons_succ]
    refine wpAnyH_done (by kernel_rfl) ?_ _
    clear HS hcw f0 hcv hn1 hn2 hn3 hn4
    go_wp2_with fail
    go_roundg (n - (j + 1))
    case measure => have := hgk.out; have := HLT.out; omega
    case rel => exact ⟨j + 1, d2, v2, t2, congrArg (Value.int .i64) (by first | exact wj | omega | rfl), hid rfl, hid (by have := HLT.out; omega), hid (by have := HJ.out; omega), hid (V5.out.less (fun x hx => hx.elim)), hS2, hW2, hL2, hG2⟩
  · have j3 : decide ((j : Int) < (n : Int)) = false := by simp; omega
    have j4 : decide (j < n) = false := by simp; omega
    have HBX := hid hV.out.below
    clear hge hgk hj
    as_aux_lemma =>
    go_wp2_with fail
    refine (pread_nil1 wr (some ⟨gv, 0, none⟩)).mono ?_
    rintro e y1 ⟨rfl, hy1⟩
    have HY1 := hid (HBX.out.trans (hy1.mono HBX.out.size))
    clear hy1
    go_wp2_with fail
    refine (pread_nil2 y1 ⟨gd, 0, none⟩).mono ?_
    rintro e y2 ⟨rfl, hy2⟩
    have HY2 := hid (HY1.out.trans (hy2.mono HY1.out.size))
    clear hy2
    go_wp2_with fail
    refine (pwrite_nil1 y2 (some ⟨gv, 0, none⟩)).mono ?_
    rintro e y3 ⟨rfl, hy3⟩
    have HY3 := hid (HY2.out.trans (hy3.mono HY2.out.size))
    clear hy3
    go_wp2_with fail
    refine (pwrite_nil2 y3 ⟨gd, 0, none⟩).mono ?_
    rintro e y4 ⟨rfl, hy4⟩
    have HY4 := hid (HY3.out.trans (hy4.mono HY3.out.size))
    clear hy4
    go_wp2
    go_ret
    exact ⟨rfl, HY4.out⟩

theorem walkPagePlays (a0 : Int) (a1 : Option Addr) (n1 c1 : Nat) (w : World) (_w0 : (Lit.int .i64 a0).wf = true) (w1 : OpsG w w.heap.size a1 n1 ∧ n1 ≤ 9223372036854775807) :
    Calls Try.prog 3 #[.int .i64 a0, .slice a1 n1 c1] w fun e w' => e = .returned (.bool true) ∧ Below w.heap.size w w' := pplays_core a0 a1 n1 c1 w w1.1 w1.2
end Go.Proofs.Ytbkcjpogafkoeaa
