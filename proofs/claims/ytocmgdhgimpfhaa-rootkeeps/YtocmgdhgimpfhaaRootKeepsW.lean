/- The walk of RootKeeps: for every input the law answers true. -/
import Derived.Test.YtocmgdhgimpfhaaRtRows
import Derived.Test.YtocmgdhgimpfhaaFrameR
import Derived.Deep.LoopGhost
import Derived.Deep.DeepCutAuto
import Derived.Deep.CutBlock
namespace Go.Proofs.Ytocmgdhgimpfhaa
open Go.RowKit

theorem ork_cells {wr : World} {g : Nat} {o : OpR} (h : Blk wr g 47 #[.int .i64 o.kind, .int .i64 o.i, .int .i64 o.fr, .slice o.BA o.Bn o.Bc, .slice o.KA o.Kn o.Kc]) : wr.cell? ⟨g, 0, none⟩ = some (.int .i64 o.kind) ∧ wr.cell? ⟨g, 1, none⟩ = some (.int .i64 o.i) ∧ wr.cell? ⟨g, 2, none⟩ = some (.int .i64 o.fr) ∧ wr.cell? ⟨g, 3, none⟩ = some (.slice o.BA o.Bn o.Bc) ∧ wr.cell? ⟨g, 4, none⟩ = some (.slice o.KA o.Kn o.Kc) :=
  ⟨(h.cell 0).trans rfl, (h.cell 1).trans rfl, (h.cell 2).trans rfl, (h.cell 3).trans rfl, (h.cell 4).trans rfl⟩
theorem Try.infoOpK : (Try.prog.info? 47).map (·.size) = some 5 := by kernel_rfl
theorem small_k {q : Nat} (h : q ≤ 1000) : IntKind.i64.wrap (q : Int) = (q : Int) ∧ wrap64 (q : Int) = (q : Int) ∧ IntKind.u64.wrap (q : Int) = (q : Int) := ⟨IntWalk.i64_in _ (by omega), by unfold wrap64; omega, by rw [IntKind.wrap_u64]; omega⟩
theorem min16 (n : Nat) : ∃ M : Nat, M ≤ n ∧ M ≤ 16 ∧ (if (n : Int) < 16 then (n : Int) else 16) = (M : Int) ∧ (if (16 : Int) < (n : Int) then (16 : Int) else (n : Int)) = (M : Int) ∧ (if (n : Int) ≤ 16 then (n : Int) else 16) = (M : Int) ∧ min (n : Int) 16 = (M : Int) := by
  by_cases h : n ≤ 16
  · refine ⟨n, Nat.le_refl _, h, ?_, ?_, ?_, by omega⟩
    · split <;> omega
    · rw [if_neg (by omega)]
    · rw [if_pos (by omega)]
  · refine ⟨16, by omega, Nat.le_refl _, ?_, ?_, ?_, by omega⟩
    · rw [if_neg (by omega)]; rfl
    · rw [if_pos (by omega)]; rfl
    · rw [if_neg (by omega)]; rfl

set_option maxRecDepth 100000 in
set_option maxHeartbeats 16000000 in
theorem rkeeps_core (A : Option Addr) (n c0 : Nat) (w : World) (hops : OpsR w w.heap.size A n) (hn : n ≤ 9223372036854775807) :
    Calls Try.prog 4 #[.slice A n c0] w fun e w' => e = .returned (.bool true) ∧ Below w.heap.size w w' := by
  have HOPS := hid hops
  have HN := hid hn
  clear hops hn
  go_enter Try.func4, Try.ntmps4
  go_wp2_with fail
  refine (rtfirst_c w).mono ?_
  rintro e w1 ⟨rfl, hb1⟩
  have HB1 := hid hb1
  clear hb1
  go_wp2_with fail
  refine (dnew_onX w w1 HB1.out 6 (by omega) (by omega) (fun _ => False) (fun x hx => hx.elim)).mono ?_
  rintro e w2 ⟨gd, rfl, hv2, -⟩
  have HV2 := hid hv2
  clear hv2 HB1
  go_wp2_with fail
  refine (vnew_on HV2.out).mono ?_
  rintro e w3 ⟨gv, rfl, hv3, -⟩
  have HV3 := hid (tc_new hv3).1
  clear hv3 HV2
  go_wp2_with fail
  generalize w3.heap.size = gc at *
  generalize w3.alloc (.cells #[.int .i64 0, .int .i64 0] 33) = w4 at *
  go_loopg [7, 8, 9, 10, 29] n (fun kk nv pv lv sv iv wr => ∃ (j : Nat) (d : St) (v : Va) (c : Ce) (now : List UInt8) (laid : Bool) (X : Nat → Prop) (RA : Option Addr) (m rc : Nat) (vs : List Value), nv = .string (str now) ∧ pv = .bool (decide (0 < c.ver)) ∧ lv = .bool laid ∧ sv = .slice RA m rc ∧ iv = .int .i64 (j : Int) ∧ Hid (kk = n - j) ∧ Hid (j ≤ n) ∧ Hid (j ≤ 60) ∧ Hid (Rt d v c now laid) ∧ Hid (d.n = 6) ∧ Hid (d.W.length ≤ j) ∧ Hid (v.L.length ≤ j) ∧ Hid (c.mark ≤ j) ∧ Hid (m ≤ 2 * j) ∧ Hid (On w (TC gd d gv v gc c) wr X) ∧ Hid (RwG wr X RA m rc vs))
  case atStart => exact ⟨0, _, _, _, [], false, fun _ => False, none, 0, 0, [], rfl, rfl, rfl, rfl, rfl, hid (by omega), hid (Nat.zero_le _), hid (by decide), hid (Rt.new (by omega) []), hid rfl, hid (Nat.le_refl _), hid (Nat.le_refl _), hid (Nat.le_refl _), hid (Nat.zero_le _), HV3, hid (RwG.nil _ _)⟩
  case round =>
  obtain ⟨j, d, v, c, now, laid, X, RA, m, rc, vs, rfl, rfl, rfl, rfl, rfl, hgk, hj, hj60, hR, hD6, hW, hL, hM, hm2, hV, hRW⟩ := hrel
  clear HV3
  rcases Nat.lt_or_ge j n with hlt | hge
  · have HLT := hid hlt
    obtain ⟨b, off, o, rfl, hbl, hR0, hO0⟩ := HOPS.out j hlt
    have HO := hid hO0
    have HR := hid (rangeAt_keep hR0 (hV.out.below.block b hbl))
    have j1 : (0 : Int) ≤ (j : Int) := by omega
    have j2 : (j : Int) < (n : Int) := by omega
    have j3 : decide ((j : Int) < (n : Int)) = true := by simpa using hlt
    have j4 : decide (j < n) = true := by simpa using hlt
    have wj : wrap64 ((j : Int) + 1) = ((j + 1 : Nat) : Int) := by have := HN.out; unfold wrap64; omega
    clear hR0 hO0 hbl
    have hbo : Below wr.heap.size wr (wr.alloc (.cells #[.int .i64 o.kind, .int .i64 o.i, .int .i64 o.fr, .slice o.BA o.Bn o.Bc, .slice o.KA o.Kn o.Kc] 47)) := (Below.refl _ _).alloc (Nat.le_refl _) _
    have HV2 : Hid (On w (TC gd d gv v gc c) (wr.alloc (.cells #[.int .i64 o.kind, .int .i64 o.i, .int .i64 o.fr, .slice o.BA o.Bn o.Bc, .slice o.KA o.Kn o.Kc] 47)) (fun x => X x ∨ x = wr.heap.size)) := hid (hV.out.add (TC.ok _ _ _ _ _ _) hbo (Y := fun x => x = wr.heap.size) (fun x hx => by subst hx; simp))
    have HRW2 := hid (hRW.out.stay (hV.out.stay hbo))
    have HK2 := hid (Blk.new wr 47 #[.int .i64 o.kind, .int .i64 o.i, .int .i64 o.fr, .slice o.BA o.Bn o.Bc, .slice o.KA o.Kn o.Kc])
    clear hbo hV hRW hlt
    as_aux_lemma =>
    go_upto_region 10 with (refine wpList_load_mid rfl 47 _ rfl b (off + j * 5) rfl [.int .i64 o.kind, .int .i64 o.i, .int .i64 o.fr, .slice o.BA o.Bn o.Bc, .slice o.KA o.Kn o.Kc] _ HR.out Try.underlying47 rfl Try.infoOpK ?_)
    generalize wr.alloc (.cells #[.int .i64 o.kind, .int .i64 o.i, .int .i64 o.fr, .slice o.BA o.Bn o.Bc, .slice o.KA o.Kn o.Kc] 47) = w2 at *
    generalize wr.heap.size = vb at *
    obtain ⟨x0, x1, x2, x3, x4⟩ := ork_cells HK2.out
    clear HR
    by_cases hbr : 60 ≤ j ∨ 300 < o.Bn ∨ 60 < o.Kn
    · have ht : decide ((60 : Int) ≤ (j : Int)) = true ∨ (decide ((60 : Int) ≤ (j : Int)) = false ∧ decide ((300 : Int) < (o.Bn : Int)) = true) ∨ (decide ((60 : Int) ≤ (j : Int)) = false ∧ decide ((300 : Int) < (o.Bn : Int)) = false ∧ decide ((60 : Int) < (o.Kn : Int)) = true) := by
        simp only [decide_eq_true_eq, decide_eq_false_iff_not]
        omega
      have HBX := hid HV2.out.below
      clear hbr
      rcases ht with e1 | ⟨e1, e2⟩ | ⟨e1, e2, e3⟩
      all_goals
        as_aux_lemma =>
        go_wp2
        go_ret
        exact ⟨rfl, HBX.out⟩
    have e1 : decide ((60 : Int) ≤ (j : Int)) = false := by simp; omega
    have e2 : decide ((300 : Int) < (o.Bn : Int)) = false := by simp; omega
    have e3 : decide ((60 : Int) < (o.Kn : Int)) = false := by simp; omega
    have HJ : Hid (j < 60) := hid (by omega)
    have HB3 : Hid (o.l.length ≤ 300) := hid (by have := HO.out.b.len; omega)
    clear hbr
    obtain ⟨kd, hkd, hkm⟩ := kmod0 o.kind 6 (by decide)
    rw [show ((6 : Nat) : Int) = 6 from rfl] at hkm
    have HWW : Hid (d.W.length ≤ 1000) := hid (by clear hkm; have := hW.out; have := HJ.out; omega)
    have HLL : Hid (v.L.length ≤ 1000) := hid (by clear hkm; have := hL.out; have := HJ.out; omega)
    have HCV : Hid (c.ver ≤ 1000) := hid (by clear hkm; have := hR.out.ver; have := hL.out; have := HJ.out; omega)
    have HBT : Hid (Bts w2 0 w.heap.size o.BA o.Bn o.l) := hid (HO.out.b.below HV2.out.below (Nat.le_refl _))
    have HKT : Hid (Lst w2 0 w.heap.size o.KA o.Kn (o.ks.map .bool)) := hid (HO.out.k.below HV2.out.below (Nat.le_refl _))
    have HKD := hid hkd
    clear hkd
    go_upto_block 2 with fail
    clear e1 e2 e3 x0 x1 x2 x3 x4
    go_cut [7, 8, 9] (fun nv pv lv wx => ∃ (now' : List UInt8) (laid' : Bool) (d' : St) (v' : Va) (c' : Ce), nv = .string (str now') ∧ pv = .bool (decide (0 < c'.ver)) ∧ lv = .bool laid' ∧ Hid (Rt d' v' c' now' laid') ∧ Hid (d'.n = 6) ∧ Hid (d'.W.length ≤ j + 1) ∧ Hid (v'.L.length ≤ j + 1) ∧ Hid (c'.mark ≤ j + 1) ∧ Hid (On w (TC gd d' gv v' gc c') wx X) ∧ Hid (RwG wx X RA m rc vs))
    case first =>
      rcases (show kd = 0 ∨ kd = 1 ∨ kd = 2 ∨ kd = 3 ∨ kd = 4 ∨ kd = 5 by clear hkm; have := HKD.out; omega) with rfl | rfl | rfl | rfl | rfl | rfl
      all_goals clear HKD
      · as_aux_lemma =>
        obtain ⟨x0, x1, x2, x3, x4⟩ := ork_cells HK2.out
        go_wp2_with fail
        refine (put_on (C := fun P => P) (d := d) (v := v) (c := c) Foc.self (fun _ h => h) HV2.out o.BA o.Bn o.Bc o.l ((HBT.out).wide (Nat.le_refl _) HV2.out.below.size) (Nat.le_trans HWW.out (by decide)) (Nat.le_trans HLL.out (by decide)) (Nat.le_trans HCV.out (by decide))).mono ?_
        rintro e w4 ⟨rfl, hv4, hk4⟩
        have V4 := hid hv4
        have RW4 := hid (HRW2.out.stay (hk4.less fun x hx => .inl hx))
        have K4 := hid (HK2.out.keep (hk4.2 vb (.inr rfl)))
        have B4 : Hid (Bts w4 0 w.heap.size o.BA o.Bn o.l) := hid (HO.out.b.below hv4.below (Nat.le_refl _))
        clear hv4 hk4 HV2 HK2 HRW2 HBT HKT x0 x1 x2 x3 x4
        rcases hR.out.put (by have := HLL.out; omega) (l := o.l) (by have := HB3.out; omega) with ⟨p1, p2, p3⟩ | ⟨p1, p2, p3⟩
        · rw [p1]
          obtain ⟨x0, x1, x2, x3, x4⟩ := ork_cells K4.out
          have hcv := run_conv B4.out (c := o.Bc)
          have HP := hid p2
          have HP3 := hid p3
          clear p1 p2 p3
          go_wp2_with fail
          go_meet
          case rel => exact ⟨o.l, laid, _, _, _, rfl, congrArg Value.bool (by rw [HP3.out]; simp), rfl, HP, hid ((ptD_n _ _ _ _).trans hD6.out), hid (by have h1 := hW.out; have h2 := ptD_W d v c o.l.length; omega), hid (by have h1 := hL.out; have h2 := (ptV_L d v c o.l).1; omega), hid (by have h1 := hM.out; have h2 := (ptC_ver d v c o.l.length).2; have h3 := hL.out; omega), hid (V4.out.less fun x hx => .inl hx), RW4⟩
        · rw [p1]
          have HP := hid p2
          have HP3 := hid p3
          clear p1 p2 p3
          go_wp2_with fail
          go_meet
          case rel => exact ⟨now, laid, _, _, _, rfl, congrArg Value.bool (by rw [HP3.out]), rfl, HP, hid ((ptD_n _ _ _ _).trans hD6.out), hid (by have h1 := hW.out; have h2 := ptD_W d v c o.l.length; omega), hid (by have h1 := hL.out; have h2 := (ptV_L d v c o.l).1; omega), hid (by have h1 := hM.out; have h2 := (ptC_ver d v c o.l.length).2; have h3 := hL.out; omega), hid (V4.out.less fun x hx => .inl hx), RW4⟩
      · as_aux_lemma =>
        obtain ⟨x0, x1, x2, x3, x4⟩ := ork_cells HK2.out
        go_wp2_with fail
        refine (put_on (C := fun P => P) (d := d) (v := v) (c := c) Foc.self (fun _ h => h) HV2.out o.BA o.Bn o.Bc o.l ((HBT.out).wide (Nat.le_refl _) HV2.out.below.size) (Nat.le_trans HWW.out (by decide)) (Nat.le_trans HLL.out (by decide)) (Nat.le_trans HCV.out (by decide))).mono ?_
        rintro e w4 ⟨rfl, hv4, hk4⟩
        have V4 := hid hv4
        have RW4 := hid (HRW2.out.stay (hk4.less fun x hx => .inl hx))
        have K4 := hid (HK2.out.keep (hk4.2 vb (.inr rfl)))
        have B4 : Hid (Bts w4 0 w.heap.size o.BA o.Bn o.l) := hid (HO.out.b.below hv4.below (Nat.le_refl _))
        clear hv4 hk4 HV2 HK2 HRW2 HBT HKT x0 x1 x2 x3 x4
        rcases hR.out.put (by have := HLL.out; omega) (l := o.l) (by have := HB3.out; omega) with ⟨p1, p2, p3⟩ | ⟨p1, p2, p3⟩
        · rw [p1]
          obtain ⟨x0, x1, x2, x3, x4⟩ := ork_cells K4.out
          have hcv := run_conv B4.out (c := o.Bc)
          have HP := hid p2
          have HP3 := hid p3
          clear p1 p2 p3
          go_wp2_with fail
          go_meet
          case rel => exact ⟨o.l, laid, _, _, _, rfl, congrArg Value.bool (by rw [HP3.out]; simp), rfl, HP, hid ((ptD_n _ _ _ _).trans hD6.out), hid (by have h1 := hW.out; have h2 := ptD_W d v c o.l.length; omega), hid (by have h1 := hL.out; have h2 := (ptV_L d v c o.l).1; omega), hid (by have h1 := hM.out; have h2 := (ptC_ver d v c o.l.length).2; have h3 := hL.out; omega), hid (V4.out.less fun x hx => .inl hx), RW4⟩
        · rw [p1]
          have HP := hid p2
          have HP3 := hid p3
          clear p1 p2 p3
          go_wp2_with fail
          go_meet
          case rel => exact ⟨now, laid, _, _, _, rfl, congrArg Value.bool (by rw [HP3.out]), rfl, HP, hid ((ptD_n _ _ _ _).trans hD6.out), hid (by have h1 := hW.out; have h2 := ptD_W d v c o.l.length; omega), hid (by have h1 := hL.out; have h2 := (ptV_L d v c o.l).1; omega), hid (by have h1 := hM.out; have h2 := (ptC_ver d v c o.l.length).2; have h3 := hL.out; omega), hid (V4.out.less fun x hx => .inl hx), RW4⟩
      · as_aux_lemma =>
        obtain ⟨x0, x1, x2, x3, x4⟩ := ork_cells HK2.out
        go_wp2_with fail
        refine (dlimit_on (tc_d gv v gc c) HV2.out o.i HO.out.i1.2).mono ?_
        rintro e w4 ⟨rfl, hv4, hk4⟩
        have V4 := hid hv4
        have RW4 := hid (HRW2.out.stay (hk4.less fun x hx => .inl hx))
        clear hv4 hk4 HV2 HRW2 HK2 HBT HKT x0 x1 x2 x3 x4
        go_wp2_with fail
        go_meet
        case rel => exact ⟨now, laid, _, v, c, rfl, rfl, rfl, hid (hR.out.bound o.i), hid (show d.n = 6 from hD6.out), hid (show d.W.length ≤ _ by have := hW.out; omega), hid (by have := hL.out; omega), hid (by have := hM.out; omega), hid (V4.out.less fun x hx => .inl hx), RW4⟩
      · as_aux_lemma =>
        obtain ⟨x0, x1, x2, x3, x4⟩ := ork_cells HK2.out
        go_wp2_with fail
        refine (dcrash_on (tc_d gv v gc c) HV2.out o.KA o.Kn o.Kc o.ks (HKT.out.wide (Nat.le_refl _) HV2.out.below.size) (fun h0 x hx => .inr (by obtain ⟨g, off, e, _, h3, _⟩ := HKT.out.2 h0; rw [e] at hx; simp at hx; omega)) (Nat.le_trans HWW.out (by decide))).mono ?_
        rintro e w4 ⟨rfl, hv4, hk4⟩
        have V4 := hid hv4
        have RW4 := hid (HRW2.out.stay (hk4.less fun x hx => .inl hx))
        clear hv4 hk4 HV2 HRW2 HK2 HBT HKT x0 x1 x2 x3 x4
        go_wp2_with fail
        go_meet
        case rel => exact ⟨now, laid, _, v, c, rfl, rfl, rfl, hid (hR.out.crash o.ks), hid (show d.n = 6 from hD6.out), hid (Nat.zero_le _), hid (by have := hL.out; omega), hid (by have := hM.out; omega), hid (V4.out.less fun x hx => .inl hx), RW4⟩
      · as_aux_lemma =>
        go_wp2_with fail
        obtain ⟨q, hq, hqm⟩ := kmod0 o.i 6 (by decide)
        rw [show ((6 : Nat) : Int) = 6 from rfl] at hqm
        obtain ⟨qw1, qw2, qw3⟩ := small_k (q := q) (by clear hqm; omega)
        obtain ⟨M, hM1, hM2, hM3, hM4, hM5, hM6⟩ := min16 o.Bn
        have HM1 := hid hM1
        have k0 : (0 : Int) ≤ (M : Int) := by clear hqm hM3 hM4 hM5 hM6; omega
        have k1 : (M : Int) ≤ (o.Bc : Int) := by clear hqm hM3 hM4 hM5 hM6; have := HO.out.bc; omega
        have K3 : Hid (Blk w2.drew vb 47 #[.int .i64 o.kind, .int .i64 o.i, .int .i64 o.fr, .slice o.BA o.Bn o.Bc, .slice o.KA o.Kn o.Kc]) := hid HK2.out
        have V3 := hid (On.go HV2.out (TC.ok gd d gv v gc c) (wr' := w2.drew) ((Below.refl _ _).drew))
        have R3 := hid (HRW2.out.stay (w' := w2.drew) ⟨Nat.le_refl _, fun _ _ => rfl⟩)
        clear HV2 HK2 HBT HKT HRW2 hq hM1 hM2
        refine wp_region_held_drew (S := fun wx => Blk wx vb 47 #[.int .i64 o.kind, .int .i64 o.i, .int .i64 o.fr, .slice o.BA o.Bn o.Bc, .slice o.KA o.Kn o.Kc]) (by kernel_rfl) K3.out (fun HS => ?_)
        generalize w2.drew = w3 at *
        refine wpAnyH_take (i := 0) (oi := ?oia0) (v := ?va0) ?hia0 (by kernel_rfl) (by kernel_rfl) (by kernel_rfl) ?hQa0 ?hya0 HS ?resta0
        case hia0 => simp only [List.getElem?_toArray, List.getElem?_cons_zero]; exact rfl
        case hQa0 => exact fun _ _ _ h => h
        case hya0 =>
          refine Or.inl ⟨by rfl, ?_⟩
          intro wS hSw
          go_simp
          try with_reducible rfl
        try simp only [Act.put, List.setIfInBounds_toArray, List.set_cons_zero, List.set_cons_succ]
        refine wpAnyH_take (i := 1) (oi := ?oia1) (v := ?va1) ?hia1 (by kernel_rfl) (by kernel_rfl) (by kernel_rfl) ?hQa1 ?hya1 HS ?resta1
        case hia1 => simp only [List.getElem?_toArray, List.getElem?_cons_succ, List.getElem?_cons_zero]; exact rfl
        case hQa1 => exact fun _ _ _ h => h
        case hya1 =>
          refine Or.inl ⟨by rfl, ?_⟩
          intro wS hSw
          obtain ⟨c0, c1, c2, c3, c4⟩ := ork_cells hSw
          go_simp
          try with_reducible rfl
        try simp only [Act.put, List.setIfInBounds_toArray, List.set_cons_zero, List.set_cons_succ]
        refine wpAnyH_take (i := 2) (oi := ?oia2) (v := ?va2) ?hia2 (by kernel_rfl) (by kernel_rfl) (by kernel_rfl) ?hQa2 ?hya2 HS ?resta2
        case hia2 => simp only [List.getElem?_toArray, List.getElem?_cons_succ, List.getElem?_cons_zero]; exact rfl
        case hQa2 => exact fun _ _ _ h => h
        case hya2 =>
          refine Or.inl ⟨by rfl, ?_⟩
          intro wS hSw
          obtain ⟨c0, c1, c2, c3, c4⟩ := ork_cells hSw
          go_simp
          try with_reducible rfl
        try simp only [Act.put, List.setIfInBounds_toArray, List.set_cons_zero, List.set_cons_succ]
        refine wpAnyH_take (i := 3) (oi := ?oia3) (v := ?va3) ?hia3 (by kernel_rfl) (by kernel_rfl) (by kernel_rfl) ?hQa3 ?hya3 HS ?resta3
        case hia3 => simp only [List.getElem?_toArray, List.getElem?_cons_succ, List.getElem?_cons_zero]; exact rfl
        case hQa3 => exact fun _ _ _ h => h
        case hya3 =>
          refine Or.inl ⟨by rfl, ?_⟩
          intro wS hSw
          obtain ⟨c0, c1, c2, c3, c4⟩ := ork_cells hSw
          go_simp
          try with_reducible rfl
        try simp only [Act.put, List.setIfInBounds_toArray, List.set_cons_zero, List.set_cons_succ]
        refine wpAnyH_take (i := 4) (oi := ?oia4) (v := ?va4) ?hia4 (by kernel_rfl) (by kernel_rfl) (by kernel_rfl) ?hQa4 ?hya4 HS ?resta4
        case hia4 => simp only [List.getElem?_toArray, List.getElem?_cons_succ, List.getElem?_cons_zero]; exact rfl
        case hQa4 => exact fun _ _ _ h => h
        case hya4 =>
          refine Or.inl ⟨by rfl, ?_⟩
          intro wS hSw
          obtain ⟨c0, c1, c2, c3, c4⟩ := ork_cells hSw
          go_simp
          try with_reducible rfl
        try simp only [Act.put, List.setIfInBounds_toArray, List.set_cons_zero, List.set_cons_succ]
        refine wpAnyH_take (i := 5) (oi := ?oia5) (v := ?va5) ?hia5 (by kernel_rfl) (by kernel_rfl) (by kernel_rfl) ?hQa5 ?hya5 HS ?resta5
        case hia5 => simp only [List.getElem?_toArray, List.getElem?_cons_succ, List.getElem?_cons_zero]; exact rfl
        case hQa5 => exact fun _ _ _ h => h
        case hya5 =>
          refine Or.inl ⟨by rfl, ?_⟩
          intro wS hSw
          obtain ⟨c0, c1, c2, c3, c4⟩ := ork_cells hSw
          go_simp
          try with_reducible rfl
        try simp only [Act.put, List.setIfInBounds_toArray, List.set_cons_zero, List.set_cons_succ]
        refine wpAnyH_take (i := 6) (oi := ?oia6) (v := ?va6) ?hia6 (by kernel_rfl) (by kernel_rfl) (by kernel_rfl) ?hQa6 ?hya6 HS ?resta6
        case hia6 => simp only [List.getElem?_toArray, List.getElem?_cons_succ, List.getElem?_cons_zero]; exact rfl
        case hQa6 => exact fun _ _ _ h => h
        case hya6 =>
          refine Or.inl ⟨by rfl, ?_⟩
          intro wS hSw
          obtain ⟨c0, c1, c2, c3, c4⟩ := ork_cells hSw
          go_simp
          try with_reducible rfl
        try simp only [Act.put, List.setIfInBounds_toArray, List.set_cons_zero, List.set_cons_succ]
        refine wpAnyH_take (i := 7) (oi := ?oia7) (v := ?va7) ?hia7 (by kernel_rfl) (by kernel_rfl) (by kernel_rfl) ?hQa7 ?hya7 HS ?resta7
        case hia7 => simp only [List.getElem?_toArray, List.getElem?_cons_succ, List.getElem?_cons_zero]; exact rfl
        case hQa7 => exact fun _ _ _ h => h
        case hya7 =>
          refine Or.inl ⟨by rfl, ?_⟩
          intro wS hSw
          obtain ⟨c0, c1, c2, c3, c4⟩ := ork_cells hSw
          go_simp
          try with_reducible rfl
        try simp only [Act.put, List.setIfInBounds_toArray, List.set_cons_zero, List.set_cons_succ]
        refine wpAnyH_take (i := 8) (oi := ?oia8) (v := ?va8) ?hia8 (by kernel_rfl) (by kernel_rfl) (by kernel_rfl) ?hQa8 ?hya8 HS ?resta8
        case hia8 => simp only [List.getElem?_toArray, List.getElem?_cons_succ, List.getElem?_cons_zero]; exact rfl
        case hQa8 => exact fun _ _ _ h => h
        case hya8 =>
          refine Or.inl ⟨by rfl, ?_⟩
          intro wS hSw
          obtain ⟨c0, c1, c2, c3, c4⟩ := ork_cells hSw
          go_simp
          try with_reducible rfl
        try simp only [Act.put, List.setIfInBounds_toArray, List.set_cons_zero, List.set_cons_succ]
        refine wpAnyH_take (i := 9) (oi := ?oia9) (v := ?va9) ?hia9 (by kernel_rfl) (by kernel_rfl) (by kernel_rfl) ?hQa9 ?hya9 HS ?resta9
        case hia9 => simp only [List.getElem?_toArray, List.getElem?_cons_succ, List.getElem?_cons_zero]; exact rfl
        case hQa9 => exact fun _ _ _ h => h
        case hya9 =>
          refine Or.inl ⟨by rfl, ?_⟩
          intro wS hSw
          obtain ⟨c0, c1, c2, c3, c4⟩ := ork_cells hSw
          go_simp
          try with_reducible rfl
        try simp only [Act.put, List.setIfInBounds_toArray, List.set_cons_zero, List.set_cons_succ]
        refine wpAnyH_take (i := 10) (oi := ?oia10) (v := ?va10) ?hia10 (by kernel_rfl) (by kernel_rfl) (by kernel_rfl) ?hQa10 ?hya10 HS ?resta10
        case hia10 => simp only [List.getElem?_toArray, List.getElem?_cons_succ, List.getElem?_cons_zero]; exact rfl
        case hQa10 => exact fun _ _ _ h => h
        case hya10 =>
          refine Or.inl ⟨by rfl, ?_⟩
          intro wS hSw
          obtain ⟨c0, c1, c2, c3, c4⟩ := ork_cells hSw
          go_simp
          try with_reducible rfl
        try simp only [Act.put, List.setIfInBounds_toArray, List.set_cons_zero, List.set_cons_succ]
        refine wpAnyH_take (i := 11) (oi := ?oia11) (v := ?va11) ?hia11 (by kernel_rfl) (by kernel_rfl) (by kernel_rfl) ?hQa11 ?hya11 HS ?resta11
        case hia11 => simp only [List.getElem?_toArray, List.getElem?_cons_succ, List.getElem?_cons_zero]; exact rfl
        case hQa11 => exact fun _ _ _ h => h
        case hya11 =>
          refine Or.inl ⟨by rfl, ?_⟩
          intro wS hSw
          obtain ⟨c0, c1, c2, c3, c4⟩ := ork_cells hSw
          go_simp
          try with_reducible rfl
        try simp only [Act.put, List.setIfInBounds_toArray, List.set_cons_zero, List.set_cons_succ]
        refine wpAnyH_take (i := 12) (oi := ?oia12) (v := ?va12) ?hia12 (by kernel_rfl) (by kernel_rfl) (by kernel_rfl) ?hQa12 ?hya12 HS ?resta12
        case hia12 => simp only [List.getElem?_toArray, List.getElem?_cons_succ, List.getElem?_cons_zero]; exact rfl
        case hQa12 => exact fun _ _ _ h => h
        case hya12 =>
          refine Or.inl ⟨by rfl, ?_⟩
          intro wS hSw
          obtain ⟨c0, c1, c2, c3, c4⟩ := ork_cells hSw
          go_simp
          try with_reducible rfl
        try simp only [Act.put, List.setIfInBounds_toArray, List.set_cons_zero, List.set_cons_succ]
        refine wpAnyH_ready (rs := [13]) (by kernel_rfl) (by simp) ?_
        refine AllReadyH.cons (o := ?oa13) ?hoa13 (fun K hK => ?stepa13) AllReadyH.nil
        case hoa13 => simp only [List.getElem?_toArray, List.getElem?_cons_succ, List.getElem?_cons_zero]; exact rfl
        go_simp
        refine (dover_on (tc_d gv v gc c) V3.out (q : Int) o.BA M o.Bc (o.l.take M) (((HO.out.b.below V3.out.below (Nat.le_refl _)).wide (Nat.le_refl _) V3.out.below.size).take HM1.out) (Nat.le_trans HWW.out (by decide))).mono ?_
        rintro e w4 ⟨rfl, hv4, hk4⟩
        have V4 := hid hv4
        have R4 := hid (R3.out.stay (hk4.less fun x hx => .inl hx))
        have K4 := hid (K3.out.keep (hk4.2 vb (.inr rfl)))
        clear hv4 hk4
        refine hK.out _ _ K4.out (fun HS => ?_)
        clear hK K
        try simp only [Act.put, List.setIfInBounds_toArray, List.set_cons_zero, List.set_cons_succ]
        refine wpAnyH_done (by kernel_rfl) ?_ _
        clear HS hqm qw1 qw2 qw3 hM3 hM4 hM5 hM6
        go_wp2_with fail
        go_meet
        case rel => exact ⟨now, true, _, v, c, rfl, rfl, rfl, hid (hR.out.over _ _), hid ((ovS_n _ _ _).trans hD6.out), hid (by have h1 := hW.out; have h2 := ovS_W d (q : Int) (o.l.take M); omega), hid (by have := hL.out; omega), hid (by have := hM.out; omega), hid (V4.out.less fun x hx => .inl hx), R4⟩
      · as_aux_lemma =>
        rcases Nat.eq_zero_or_pos m with hz | hz
        · subst hz
          as_aux_lemma =>
          go_wp2_with fail
          go_meet
          case rel => exact ⟨now, laid, d, v, c, rfl, rfl, rfl, hR, hD6, hid (by have := hW.out; omega), hid (by have := hL.out; omega), hid (by have := hM.out; omega), hid (HV2.out.less fun x hx => .inl hx), HRW2⟩
        · have z1 : decide ((0 : Int) < (m : Int)) = true := by clear hkm; simp; omega
          have z2 : decide (0 < m) = true := by clear hkm; simpa using hz
          have HM2 : Hid (m ≤ 1000) := hid (by clear hkm; have := hm2.out; have := HJ.out; omega)
          obtain ⟨mw1, mw2, mw3⟩ := small_k HM2.out
          have z3 : ((m : Int) == 0) = false := by clear hkm; simp; omega
          have z4 : decide ((m : Int) = 0) = false := by clear hkm; simp; omega
          have z5 : ¬ (m : Int) = 0 := by clear hkm; omega
          have z6 : ¬ m = 0 := by clear hkm; omega
          obtain ⟨q, hq, hqm⟩ := kmod0 o.i 6 (by decide)
          rw [show ((6 : Nat) : Int) = 6 from rfl] at hqm
          obtain ⟨qw1, qw2, qw3⟩ := small_k (q := q) (by clear hkm hqm; omega)
          obtain ⟨x, hx, hxm⟩ := kmod0 o.fr m hz
          have y1 : (0 : Int) ≤ (x : Int) := by clear hkm hqm hxm; omega
          have y2 : (x : Int) < (m : Int) := by clear hkm hqm hxm; omega
          obtain ⟨xw1, xw2, xw3⟩ := small_k (q := x) (by clear hkm hqm hxm; have := HM2.out; omega)
          obtain ⟨rb, hrb, -, -⟩ := own_range HRW2.out.own hz
          subst hrb
          obtain ⟨SA, sn, sc, sl, s1, s2, s3⟩ := HRW2.out.el x hx
          have HRB : Hid (X rb) := hid (HRW2.out.RX rb rfl)
          have HS3 := hid s3
          have HS2 := hid s2
          have hrc := (own_cell1 HRW2.out.own hx s1).1
          have HRC := hid hrc
          clear hz hq hx s1 s2 s3 hrc
          as_aux_lemma =>
          go_wp2_with fail
          have K3 : Hid (Blk w2.drew vb 47 #[.int .i64 o.kind, .int .i64 o.i, .int .i64 o.fr, .slice o.BA o.Bn o.Bc, .slice o.KA o.Kn o.Kc]) := hid HK2.out
          have V3 := hid (On.go HV2.out (TC.ok gd d gv v gc c) (wr' := w2.drew) ((Below.refl _ _).drew))
          have R3 := hid (HRW2.out.stay (w' := w2.drew) ⟨Nat.le_refl _, fun _ _ => rfl⟩)
          have T3 : Hid (Bts w2.drew 0 w2.drew.heap.size SA sn sl) := hid (HS3.out.keep (fun _ _ _ => rfl))
          have C3 : Hid (w2.drew.cell? ⟨rb, x, none⟩ = some (.slice SA sn sc)) := hid HRC.out
          clear HV2 HK2 HBT HKT HRW2 HS3 HRC z1 z2
          refine wp_region_held_drew (S := fun wx => Blk wx vb 47 #[.int .i64 o.kind, .int .i64 o.i, .int .i64 o.fr, .slice o.BA o.Bn o.Bc, .slice o.KA o.Kn o.Kc] ∧ wx.cell? ⟨rb, x, none⟩ = some (.slice SA sn sc)) (by kernel_rfl) ⟨K3.out, C3.out⟩ (fun HS => ?_)
          generalize w2.drew = w3 at *
          refine wpAnyH_take (i := 0) (oi := ?oib0) (v := ?vb0) ?hib0 (by kernel_rfl) (by kernel_rfl) (by kernel_rfl) ?hQb0 ?hyb0 HS ?restb0
          case hib0 => simp only [List.getElem?_toArray, List.getElem?_cons_zero]; exact rfl
          case hQb0 => exact fun _ _ _ h => h
          case hyb0 =>
            refine Or.inl ⟨by rfl, ?_⟩
            intro wS hSw
            go_simp
            try with_reducible rfl
          try simp only [Act.put, List.setIfInBounds_toArray, List.set_cons_zero, List.set_cons_succ]
          refine wpAnyH_take (i := 1) (oi := ?oib1) (v := ?vb1) ?hib1 (by kernel_rfl) (by kernel_rfl) (by kernel_rfl) ?hQb1 ?hyb1 HS ?restb1
          case hib1 => simp only [List.getElem?_toArray, List.getElem?_cons_succ, List.getElem?_cons_zero]; exact rfl
          case hQb1 => exact fun _ _ _ h => h
          case hyb1 =>
            refine Or.inl ⟨by rfl, ?_⟩
            intro wS hSw
            obtain ⟨c0, c1, c2, c3, c4⟩ := ork_cells hSw.1
            have c5 := hSw.2
            go_simp
            try with_reducible rfl
          try simp only [Act.put, List.setIfInBounds_toArray, List.set_cons_zero, List.set_cons_succ]
          refine wpAnyH_take (i := 2) (oi := ?oib2) (v := ?vb2) ?hib2 (by kernel_rfl) (by kernel_rfl) (by kernel_rfl) ?hQb2 ?hyb2 HS ?restb2
          case hib2 => simp only [List.getElem?_toArray, List.getElem?_cons_succ, List.getElem?_cons_zero]; exact rfl
          case hQb2 => exact fun _ _ _ h => h
          case hyb2 =>
            refine Or.inl ⟨by rfl, ?_⟩
            intro wS hSw
            obtain ⟨c0, c1, c2, c3, c4⟩ := ork_cells hSw.1
            have c5 := hSw.2
            go_simp
            try with_reducible rfl
          try simp only [Act.put, List.setIfInBounds_toArray, List.set_cons_zero, List.set_cons_succ]
          refine wpAnyH_take (i := 3) (oi := ?oib3) (v := ?vb3) ?hib3 (by kernel_rfl) (by kernel_rfl) (by kernel_rfl) ?hQb3 ?hyb3 HS ?restb3
          case hib3 => simp only [List.getElem?_toArray, List.getElem?_cons_succ, List.getElem?_cons_zero]; exact rfl
          case hQb3 => exact fun _ _ _ h => h
          case hyb3 =>
            refine Or.inl ⟨by rfl, ?_⟩
            intro wS hSw
            obtain ⟨c0, c1, c2, c3, c4⟩ := ork_cells hSw.1
            have c5 := hSw.2
            go_simp
            try with_reducible rfl
          try simp only [Act.put, List.setIfInBounds_toArray, List.set_cons_zero, List.set_cons_succ]
          refine wpAnyH_take (i := 4) (oi := ?oib4) (v := ?vb4) ?hib4 (by kernel_rfl) (by kernel_rfl) (by kernel_rfl) ?hQb4 ?hyb4 HS ?restb4
          case hib4 => simp only [List.getElem?_toArray, List.getElem?_cons_succ, List.getElem?_cons_zero]; exact rfl
          case hQb4 => exact fun _ _ _ h => h
          case hyb4 =>
            refine Or.inl ⟨by rfl, ?_⟩
            intro wS hSw
            obtain ⟨c0, c1, c2, c3, c4⟩ := ork_cells hSw.1
            have c5 := hSw.2
            go_simp
            try with_reducible rfl
          try simp only [Act.put, List.setIfInBounds_toArray, List.set_cons_zero, List.set_cons_succ]
          refine wpAnyH_take (i := 5) (oi := ?oib5) (v := ?vb5) ?hib5 (by kernel_rfl) (by kernel_rfl) (by kernel_rfl) ?hQb5 ?hyb5 HS ?restb5
          case hib5 => simp only [List.getElem?_toArray, List.getElem?_cons_succ, List.getElem?_cons_zero]; exact rfl
          case hQb5 => exact fun _ _ _ h => h
          case hyb5 =>
            refine Or.inl ⟨by rfl, ?_⟩
            intro wS hSw
            obtain ⟨c0, c1, c2, c3, c4⟩ := ork_cells hSw.1
            have c5 := hSw.2
            go_simp
            try with_reducible rfl
          try simp only [Act.put, List.setIfInBounds_toArray, List.set_cons_zero, List.set_cons_succ]
          refine wpAnyH_take (i := 6) (oi := ?oib6) (v := ?vb6) ?hib6 (by kernel_rfl) (by kernel_rfl) (by kernel_rfl) ?hQb6 ?hyb6 HS ?restb6
          case hib6 => simp only [List.getElem?_toArray, List.getElem?_cons_succ, List.getElem?_cons_zero]; exact rfl
          case hQb6 => exact fun _ _ _ h => h
          case hyb6 =>
            refine Or.inl ⟨by rfl, ?_⟩
            intro wS hSw
            go_simp
            try with_reducible rfl
          try simp only [Act.put, List.setIfInBounds_toArray, List.set_cons_zero, List.set_cons_succ]
          refine wpAnyH_take (i := 7) (oi := ?oib7) (v := ?vb7) ?hib7 (by kernel_rfl) (by kernel_rfl) (by kernel_rfl) ?hQb7 ?hyb7 HS ?restb7
          case hib7 => simp only [List.getElem?_toArray, List.getElem?_cons_succ, List.getElem?_cons_zero]; exact rfl
          case hQb7 => exact fun _ _ _ h => h
          case hyb7 =>
            refine Or.inl ⟨by rfl, ?_⟩
            intro wS hSw
            obtain ⟨c0, c1, c2, c3, c4⟩ := ork_cells hSw.1
            have c5 := hSw.2
            go_simp
            try with_reducible rfl
          try simp only [Act.put, List.setIfInBounds_toArray, List.set_cons_zero, List.set_cons_succ]
          refine wpAnyH_take (i := 8) (oi := ?oib8) (v := ?vb8) ?hib8 (by kernel_rfl) (by kernel_rfl) (by kernel_rfl) ?hQb8 ?hyb8 HS ?restb8
          case hib8 => simp only [List.getElem?_toArray, List.getElem?_cons_succ, List.getElem?_cons_zero]; exact rfl
          case hQb8 => exact fun _ _ _ h => h
          case hyb8 =>
            refine Or.inl ⟨by rfl, ?_⟩
            intro wS hSw
            obtain ⟨c0, c1, c2, c3, c4⟩ := ork_cells hSw.1
            have c5 := hSw.2
            go_simp
            try with_reducible rfl
          try simp only [Act.put, List.setIfInBounds_toArray, List.set_cons_zero, List.set_cons_succ]
          refine wpAnyH_take (i := 9) (oi := ?oib9) (v := ?vb9) ?hib9 (by kernel_rfl) (by kernel_rfl) (by kernel_rfl) ?hQb9 ?hyb9 HS ?restb9
          case hib9 => simp only [List.getElem?_toArray, List.getElem?_cons_succ, List.getElem?_cons_zero]; exact rfl
          case hQb9 => exact fun _ _ _ h => h
          case hyb9 =>
            refine Or.inl ⟨by rfl, ?_⟩
            intro wS hSw
            obtain ⟨c0, c1, c2, c3, c4⟩ := ork_cells hSw.1
            have c5 := hSw.2
            go_simp
            try with_reducible rfl
          try simp only [Act.put, List.setIfInBounds_toArray, List.set_cons_zero, List.set_cons_succ]
          refine wpAnyH_take (i := 10) (oi := ?oib10) (v := ?vb10) ?hib10 (by kernel_rfl) (by kernel_rfl) (by kernel_rfl) ?hQb10 ?hyb10 HS ?restb10
          case hib10 => simp only [List.getElem?_toArray, List.getElem?_cons_succ, List.getElem?_cons_zero]; exact rfl
          case hQb10 => exact fun _ _ _ h => h
          case hyb10 =>
            refine Or.inl ⟨by rfl, ?_⟩
            intro wS hSw
            go_simp
            try with_reducible rfl
          try simp only [Act.put, List.setIfInBounds_toArray, List.set_cons_zero, List.set_cons_succ]
          refine wpAnyH_take (i := 11) (oi := ?oib11) (v := ?vb11) ?hib11 (by kernel_rfl) (by kernel_rfl) (by kernel_rfl) ?hQb11 ?hyb11 HS ?restb11
          case hib11 => simp only [List.getElem?_toArray, List.getElem?_cons_succ, List.getElem?_cons_zero]; exact rfl
          case hQb11 => exact fun _ _ _ h => h
          case hyb11 =>
            refine Or.inl ⟨by rfl, ?_⟩
            intro wS hSw
            obtain ⟨c0, c1, c2, c3, c4⟩ := ork_cells hSw.1
            have c5 := hSw.2
            go_simp
            try with_reducible rfl
          try simp only [Act.put, List.setIfInBounds_toArray, List.set_cons_zero, List.set_cons_succ]
          refine wpAnyH_take (i := 12) (oi := ?oib12) (v := ?vb12) ?hib12 (by kernel_rfl) (by kernel_rfl) (by kernel_rfl) ?hQb12 ?hyb12 HS ?restb12
          case hib12 => simp only [List.getElem?_toArray, List.getElem?_cons_succ, List.getElem?_cons_zero]; exact rfl
          case hQb12 => exact fun _ _ _ h => h
          case hyb12 =>
            refine Or.inl ⟨by rfl, ?_⟩
            intro wS hSw
            obtain ⟨c0, c1, c2, c3, c4⟩ := ork_cells hSw.1
            have c5 := hSw.2
            go_simp
            try with_reducible rfl
          try simp only [Act.put, List.setIfInBounds_toArray, List.set_cons_zero, List.set_cons_succ]
          refine wpAnyH_take (i := 13) (oi := ?oib13) (v := ?vb13) ?hib13 (by kernel_rfl) (by kernel_rfl) (by kernel_rfl) ?hQb13 ?hyb13 HS ?restb13
          case hib13 => simp only [List.getElem?_toArray, List.getElem?_cons_succ, List.getElem?_cons_zero]; exact rfl
          case hQb13 => exact fun _ _ _ h => h
          case hyb13 =>
            refine Or.inl ⟨by rfl, ?_⟩
            intro wS hSw
            obtain ⟨c0, c1, c2, c3, c4⟩ := ork_cells hSw.1
            have c5 := hSw.2
            go_simp
            try with_reducible rfl
          try simp only [Act.put, List.setIfInBounds_toArray, List.set_cons_zero, List.set_cons_succ]
          refine wpAnyH_take (i := 14) (oi := ?oib14) (v := ?vb14) ?hib14 (by kernel_rfl) (by kernel_rfl) (by kernel_rfl) ?hQb14 ?hyb14 HS ?restb14
          case hib14 => simp only [List.getElem?_toArray, List.getElem?_cons_succ, List.getElem?_cons_zero]; exact rfl
          case hQb14 => exact fun _ _ _ h => h
          case hyb14 =>
            refine Or.inl ⟨by rfl, ?_⟩
            intro wS hSw
            obtain ⟨c0, c1, c2, c3, c4⟩ := ork_cells hSw.1
            have c5 := hSw.2
            go_simp
            try with_reducible rfl
          try simp only [Act.put, List.setIfInBounds_toArray, List.set_cons_zero, List.set_cons_succ]
          refine wpAnyH_take (i := 15) (oi := ?oib15) (v := ?vb15) ?hib15 (by kernel_rfl) (by kernel_rfl) (by kernel_rfl) ?hQb15 ?hyb15 HS ?restb15
          case hib15 => simp only [List.getElem?_toArray, List.getElem?_cons_succ, List.getElem?_cons_zero]; exact rfl
          case hQb15 => exact fun _ _ _ h => h
          case hyb15 =>
            refine Or.inl ⟨by rfl, ?_⟩
            intro wS hSw
            obtain ⟨c0, c1, c2, c3, c4⟩ := ork_cells hSw.1
            have c5 := hSw.2
            go_simp
            try with_reducible rfl
          try simp only [Act.put, List.setIfInBounds_toArray, List.set_cons_zero, List.set_cons_succ]
          refine wpAnyH_take (i := 16) (oi := ?oib16) (v := ?vb16) ?hib16 (by kernel_rfl) (by kernel_rfl) (by kernel_rfl) ?hQb16 ?hyb16 HS ?restb16
          case hib16 => simp only [List.getElem?_toArray, List.getElem?_cons_succ, List.getElem?_cons_zero]; exact rfl
          case hQb16 => exact fun _ _ _ h => h
          case hyb16 =>
            refine Or.inl ⟨by rfl, ?_⟩
            intro wS hSw
            obtain ⟨c0, c1, c2, c3, c4⟩ := ork_cells hSw.1
            have c5 := hSw.2
            go_simp
            try with_reducible rfl
          try simp only [Act.put, List.setIfInBounds_toArray, List.set_cons_zero, List.set_cons_succ]
          refine wpAnyH_ready (rs := [17]) (by kernel_rfl) (by simp) ?_
          refine AllReadyH.cons (o := ?ob17) ?hob17 (fun K hK => ?stepb17) AllReadyH.nil
          case hob17 => simp only [List.getElem?_toArray, List.getElem?_cons_succ, List.getElem?_cons_zero]; exact rfl
          go_simp
          refine (dover_on (tc_d gv v gc c) V3.out (q : Int) SA sn sc sl T3.out (Nat.le_trans HWW.out (by decide))).mono ?_
          rintro e w4 ⟨rfl, hv4, hk4⟩
          have V4 := hid hv4
          have R4 := hid (R3.out.stay (hk4.less fun x hx => .inl hx))
          have K4 := hid (K3.out.keep (hk4.2 vb (.inr rfl)))
          have C4 : Hid (w4.cell? ⟨rb, x, none⟩ = some (.slice SA sn sc)) := hid ((World.cell?_of_block (a := ⟨rb, x, none⟩) (hk4.2 rb (.inl HRB.out))).trans C3.out)
          clear hv4 hk4
          refine hK.out _ _ ⟨K4.out, C4.out⟩ (fun HS => ?_)
          clear hK K
          try simp only [Act.put, List.setIfInBounds_toArray, List.set_cons_zero, List.set_cons_succ]
          refine wpAnyH_done (by kernel_rfl) ?_ _
          clear HS hqm qw1 qw2 qw3 hxm xw1 xw2 xw3 mw1 mw2 mw3
          go_wp2_with fail
          go_meet
          case rel => exact ⟨now, true, _, v, c, rfl, rfl, rfl, hid (hR.out.over _ _), hid ((ovS_n _ _ _).trans hD6.out), hid (by have h1 := hW.out; have h2 := ovS_W d (q : Int) sl; omega), hid (by have := hL.out; omega), hid (by have := hM.out; omega), hid (V4.out.less fun x hx => .inl hx), R4⟩
    case rest =>
    obtain ⟨now2, laid2, d2, v2, c2, rfl, rfl, rfl, hR2, hD2, hW2, hL2, hM2, hV, hRW⟩ := hcut
    clear HV2 HRW2 HK2 HWW HLL HCV HBT HKT hkm HKD hR hD6 hW hL hM
    as_aux_lemma =>
    go_wp2_with fail
    go_loopg [10, 114] 2 (fun kk sv iv wq => ∃ (k : Nat) (RA : Option Addr) (m rc : Nat) (vs : List Value) (X : Nat → Prop), sv = .slice RA m rc ∧ iv = .int .i64 (k : Int) ∧ Hid (kk = 2 - k) ∧ Hid (k ≤ 2) ∧ Hid (m ≤ 2 * j + k) ∧ Hid (On w (TC gd d2 gv v2 gc c2) wq X) ∧ Hid (RwG wq X RA m rc vs))
    case atStart => exact ⟨0, RA, m, rc, vs, X, rfl, rfl, hid (by omega), hid (by omega), hid (by have := hm2.out; omega), hV, hRW⟩
    case round =>
    obtain ⟨k, RA', m', rc', vs', X', rfl, rfl, hgi, hk2, hmm, hVq, hRq⟩ := hrel
    clear hV hRW hm2
    rcases Nat.lt_or_ge k 2 with hlt | hge
    · have HLI := hid hlt
      have i3 : decide ((k : Int) < 2) = true := by simp; omega
      have i4 : decide (k < 2) = true := by simpa using hlt
      have wi : wrap64 ((k : Int) + 1) = ((k + 1 : Nat) : Int) := by unfold wrap64; omega
      clear hlt
      as_aux_lemma =>
      go_wp2_with fail
      refine (dread_on (tc_d gv v2 gc c2) hVq.out (k : Int)).mono ?_
      rintro e v7 ⟨A7, n7, k7, rfl, ho7, -, hb7⟩
      have HV7 := hid (On.row hVq.out (TC.ok gd d2 gv v2 gc c2) hb7 ho7)
      have HV7' := hid (On.go hVq.out (TC.ok gd d2 gv v2 gc c2) hb7)
      have HR7 := hid (hRq.out.stay (hVq.out.stay hb7))
      have HT7 := hid ((Bts.own ho7).wide (Nat.zero_le _) (Nat.le_refl _))
      have HX7 := hid (fun x (hx : X' x) => Nat.lt_of_lt_of_le (hVq.out.lt hx) hb7.size)
      have HA7 := hid (fun y (hy : A7.map (·.block) = some y) => And.intro (show ¬ X' y from fun e => by have h1 := hVq.out.lt e; have h2 := own_ge ho7 y hy; omega) (own_lt ho7 y hy))
      clear ho7 hb7 hVq hRq
      by_cases he : rdE d2 (k : Int) = 0
      · rw [he]
        clear he
        by_cases h200 : m' < 200
        · have z1 : decide ((m' : Int) < 200) = true := by simp; omega
          have z2 : decide (m' < 200) = true := by simpa using h200
          have HM2 := hid h200
          have HN8 : Hid ((v7.alloc (.cells #[.slice A7 n7 k7] 44)).rangeAt v7.heap.size 0 [.slice A7 n7 k7]) := hid (fun t u hu => by
            rw [(Blk.new v7 44 #[.slice A7 n7 k7]).cell, Nat.zero_add]
            rw [show (#[.slice A7 n7 k7] : Array Value) = ([.slice A7 n7 k7] : List Value).toArray from rfl, List.getElem?_toArray]
            exact hu)
          have HO8 : Hid ((v7.alloc (.cells #[.slice A7 n7 k7] 44)).ownsRow 0 44 1 (.slice RA' m' rc') m' vs') := hid (own_keep HR7.out.own fun y hy => ((Below.refl v7.heap.size v7).alloc (Nat.le_refl _) _).block y (own_lt HR7.out.own y hy))
          clear h200 HV7'
          as_aux_lemma =>
          go_wp2_with (at_builtin; refine wpList_append_z rfl 70 44 _ 1 24 Try.underlying70 Try.infoRowsG rfl (by decide) (by decide) _ _ rfl RA' m' rc' vs' rfl HO8.out v7.heap.size rfl [.slice A7 n7 k7] rfl HN8.out (by simp [Value.oneCell']) (by have := HM2.out; omega) ?_)
          intro RB rcB w9 ho9 hg9 hl9
          have hs8 : (v7.alloc (.cells #[.slice A7 n7 k7] 44)).heap.size = v7.heap.size + 1 := by simp
          have HR9 := hid (HR7.out.push HX7.out HT7.out HA7.out ho9 hg9 hl9)
          have HV9 : Hid (On w (TC gd d2 gv v2 gc c2) w9 (fun x => (X' x ∨ A7.map (·.block) = some x) ∨ RB.map (·.block) = some x)) := hid ((On.go HV7.out (TC.ok gd d2 gv v2 gc c2) ((Below.refl _ _).alloc (Nat.le_refl _) _)).grew (TC.ok gd d2 gv v2 gc c2) hg9 (fun q hq => .inl (HR7.out.RX q hq)) (fun x hx => by
            rcases hx with hx | hx
            · exact .inl hx
            · rcases hl9 x hx with e | e
              · exact .inl (.inl (HR7.out.RX x e))
              · exact .inr ⟨by omega, own_lt ho9 x hx⟩))
          clear ho9 hg9 hl9 hs8 HN8 HO8 HV7 HR7 HT7 HX7 HA7
          go_wp2_with fail
          go_roundg (2 - (k + 1))
          case measure => have := hgi.out; have := HLI.out; omega
          case rel => exact ⟨k + 1, RB, m' + 1, rcB, _, _, rfl, congrArg (Value.int .i64) (by first | exact wi | omega | rfl), hid rfl, hid (by have := HLI.out; omega), hid (by have := hmm.out; omega), HV9, HR9⟩
        · have z1 : decide ((m' : Int) < 200) = false := by simp; omega
          have z2 : decide (m' < 200) = false := by simpa using h200
          clear h200 HV7 HT7 HX7 HA7
          as_aux_lemma =>
          go_wp2_with fail
          go_roundg (2 - (k + 1))
          case measure => have := hgi.out; have := HLI.out; omega
          case rel => exact ⟨k + 1, RA', m', rc', vs', X', rfl, congrArg (Value.int .i64) (by first | exact wi | omega | rfl), hid rfl, hid (by have := HLI.out; omega), hid (by have := hmm.out; omega), HV7', HR7⟩
      · generalize rdE d2 (k : Int) = E at *
        have z1 : (E == 0) = false := by simpa using he
        have z2 : decide (E = 0) = false := by simpa using he
        clear he HV7 HT7 HX7 HA7
        as_aux_lemma =>
        go_wp2_with fail
        go_roundg (2 - (k + 1))
        case measure => have := hgi.out; have := HLI.out; omega
        case rel => exact ⟨k + 1, RA', m', rc', vs', X', rfl, congrArg (Value.int .i64) (by first | exact wi | omega | rfl), hid rfl, hid (by have := HLI.out; omega), hid (by have := hmm.out; omega), HV7', HR7⟩
    · have i3 : decide ((k : Int) < 2) = false := by simp; omega
      have i4 : decide (k < 2) = false := by simp; omega
      have HK2 : Hid (k = 2) := hid (by have := hk2.out; omega)
      clear hge
      as_aux_lemma =>
      go_wp2_with fail
      refine (get_on (C := fun P => P) (d := d2) (v := v2) (c := c2) Foc.self (fun _ h => h) hVq.out (by have := hR2.out.ver; have := hL2.out; have := HJ.out; omega) (by have := hM2.out; have := HJ.out; omega)).mono ?_
      rintro e v7 ⟨A7, n7, k7, rfl, ho7, -, hb7⟩
      have HV7 := hid (On.go hVq.out (TC.ok gd d2 gv v2 gc c2) hb7)
      have HR7 := hid (hRq.out.stay (hVq.out.stay hb7))
      have hst := own_str ho7 (c := k7)
      clear ho7 hb7 hVq hRq i3 i4
      rcases Nat.eq_zero_or_pos c2.ver with hz | hz
      · have t0 : gtE d2 v2 c2 = 90 := if_pos hz
        have t1 : decide (0 < c2.ver) = false := by simp [hz]
        rw [t0]
        clear hz t0
        as_aux_lemma =>
        go_wp2_with fail
        go_roundg (n - (j + 1))
        case measure => have := hgk.out; have := HLT.out; omega
        case rel => exact ⟨j + 1, d2, v2, c2, now2, _, X', RA', m', rc', vs', rfl, congrArg Value.bool (by first | rfl | exact t1.symm), rfl, rfl, congrArg (Value.int .i64) (by first | exact wj | omega | rfl), hid rfl, hid (by have := HLT.out; omega), hid (by have := HJ.out; omega), hR2, hD2, hW2, hL2, hM2, hid (by have := hmm.out; have := HK2.out; omega), HV7, HR7⟩
      · have t1 : decide (0 < c2.ver) = true := by simpa using hz
        rcases hR2.out.got (by have := hL2.out; have := HJ.out; omega) hz with ⟨g1, g2⟩ | ⟨g1, -⟩ | ⟨g1, g2⟩
        · rw [g1]
          rw [g2] at hst
          have t7 : ((str now2).toList == (str now2).toList) = true := by simp
          clear g1 g2 hz
          as_aux_lemma =>
          go_wp2_with fail
          go_roundg (n - (j + 1))
          case measure => have := hgk.out; have := HLT.out; omega
          case rel => exact ⟨j + 1, d2, v2, c2, now2, _, X', RA', m', rc', vs', rfl, congrArg Value.bool (by first | rfl | exact t1.symm), rfl, rfl, congrArg (Value.int .i64) (by first | exact wj | omega | rfl), hid rfl, hid (by have := HLT.out; omega), hid (by have := HJ.out; omega), hR2, hD2, hW2, hL2, hM2, hid (by have := hmm.out; have := HK2.out; omega), HV7, HR7⟩
        · rw [g1]
          clear g1 hz
          as_aux_lemma =>
          go_wp2_with fail
          go_roundg (n - (j + 1))
          case measure => have := hgk.out; have := HLT.out; omega
          case rel => exact ⟨j + 1, d2, v2, c2, now2, _, X', RA', m', rc', vs', rfl, congrArg Value.bool (by first | rfl | exact t1.symm), rfl, rfl, congrArg (Value.int .i64) (by first | exact wj | omega | rfl), hid rfl, hid (by have := HLT.out; omega), hid (by have := HJ.out; omega), hR2, hD2, hW2, hL2, hM2, hid (by have := hmm.out; have := HK2.out; omega), HV7, HR7⟩
        · rw [g1]
          subst g2
          clear g1 hz
          as_aux_lemma =>
          go_wp2_with fail
          go_roundg (n - (j + 1))
          case measure => have := hgk.out; have := HLT.out; omega
          case rel => exact ⟨j + 1, d2, v2, c2, now2, _, X', RA', m', rc', vs', rfl, congrArg Value.bool (by first | rfl | exact t1.symm), rfl, rfl, congrArg (Value.int .i64) (by first | exact wj | omega | rfl), hid rfl, hid (by have := HLT.out; omega), hid (by have := HJ.out; omega), hR2, hD2, hW2, hL2, hM2, hid (by have := hmm.out; have := HK2.out; omega), HV7, HR7⟩
  · have j3 : decide ((j : Int) < (n : Int)) = false := by simp; omega
    have j4 : decide (j < n) = false := by simp; omega
    have HBX := hid hV.out.below
    clear hge hgk hj
    as_aux_lemma =>
    go_wp2
    go_ret
    exact ⟨rfl, HBX.out⟩

theorem walkRootKeeps (a1 : Option Addr) (n1 c1 : Nat) (w : World) (w1 : OpsR w w.heap.size a1 n1 ∧ n1 ≤ 9223372036854775807) :
    Calls Try.prog 4 #[.slice a1 n1 c1] w fun e w' => e = .returned (.bool true) ∧ Below w.heap.size w w' := rkeeps_core a1 n1 c1 w w1.1 w1.2
end Go.Proofs.Ytocmgdhgimpfhaa
