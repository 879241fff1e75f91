/- The walk of StoreAgain: it answers true, whatever the input. -/
import Derived.Test.YtdkbpjkoiegflaaGreatStSame
import Derived.Test.YtdkbpjkoiegflaaGreatStOpL
namespace Go.Proofs.YtdkbpjkoiegflaaGreat
open Go.RowKit

theorem On.swap {w wr : World} {P Q R : Ob} {X : Nat → Prop} (h : On w ((P.and Q).and R) wr X) : On w ((P.and R).and Q) wr X := by
  obtain ⟨F, ⟨A, B, ⟨C, D, h1, h2, h3, h4⟩, h5, h6, h7⟩, h8, h9, h10⟩ := h
  refine ⟨F, ⟨fun j => C j ∨ B j, D, ⟨C, B, h1, h5, fun j hj hb => h6 j ((h4 j).2 (.inl hj)) hb, fun j => Iff.rfl⟩, h2, ?_, ?_⟩, h8, h9, h10⟩
  · rintro j (hj | hj) hd
    · exact h3 j hj hd
    · exact h6 j ((h4 j).2 (.inr hd)) hj
  · intro j
    rw [h7 j, h4 j]
    constructor
    · rintro ((h | h) | h)
      · exact .inl (.inl h)
      · exact .inr h
      · exact .inl (.inr h)
    · rintro ((h | h) | h)
      · exact .inl (.inl h)
      · exact .inr h
      · exact .inl (.inr h)
theorem ag_q {j r : Nat} (hr : r = j % 32) : Int.tmod (j : Int) 32 = (r : Int) ∧ (j : Int) % 32 = (r : Int) ∧ IntKind.u64.wrap (r : Int) = (r : Int) ∧ wrap64 (r : Int) = (r : Int) ∧ decide ((r : Int) < 0) = false := by
  refine ⟨?_, by omega, IntWalk.u64_in _ (by omega), by unfold wrap64; omega, by simp⟩
  rw [Int.tmod_eq_emod_of_nonneg (by omega)]; omega
theorem ag_25 {j : Nat} (h : ¬ 25 ≤ j) : j + 1 ≤ 25 := by omega
theorem ag_wk {k m : Nat} (h : m ≤ 1000) (hk : k < m) : wrap64 ((k : Int) + 1) = ((k + 1 : Nat) : Int) := by unfold wrap64; omega
set_option maxRecDepth 100000 in
set_option maxHeartbeats 16000000 in
theorem walkStoreAgain (A : Option Addr) (n c0 : Nat) (OP : Int) (w : World) (hops : OpsT w w.heap.size A n ∧ n ≤ 9223372036854775807) (_hOP : (Lit.int .u32 OP).wf = true) :
    Calls Tryz.prog 9 #[.slice A n c0, .int .u32 OP] w fun e w' => e = .returned (.bool true) ∧ Below w.heap.size w w' := by
  have HOPS := hid hops.1
  have HN := hid hops.2
  clear hops
  go_enter Tryz.func9, Tryz.ntmps9
  go_wp2_with fail
  refine (stfirst_c w).mono ?_
  rintro e w1 ⟨rfl, hb1⟩
  have HB1 := hid hb1
  clear hb1
  go_wp2_with fail
  refine (dnew_on w w1 HB1.out 50 (by omega) (by omega)).mono ?_
  rintro e w2 ⟨gd, rfl, hv2, -⟩
  have HV2 := hid hv2
  clear hv2 HB1
  go_wp2_with fail
  refine (vnew_on HV2.out).mono ?_
  rintro e w3 ⟨gv, rfl, hv3, -⟩
  have HV3 := hid (tc_new hv3).1
  clear hv3 HV2
  go_wp2_with fail
  generalize w3.heap.size = gc at *
  generalize w3.alloc (.cells #[.int .i64 0, .int .i64 0] 33) = w4 at *
  refine (sopen_on Foc.self (fun _ h => h) HV3.out (by decide) (by decide)).mono ?_
  rintro e w5 ⟨pp, rfl, hb5, -, ho5⟩
  have HSI0 : Hid (SI (St.new 50) Va.new ⟨0, 0⟩ [] false) := hid (SI.init (by decide) (by decide))
  obtain ⟨hz, hzL⟩ := so_new (n := 50) (by decide)
  obtain ⟨gs0, G5, rfl, hs5, hg5⟩ := ho5 hz
  rw [hz]
  rw [hzL] at hs5
  have HV5 : Hid (On w (TS gd (St.new 50) gv Va.new gc ⟨0, 0⟩ gs0 50 [] false) w5 (fun _ => False)) := hid ((HV3.out.with_ (TC.ok _ _ _ _ _ _) hs5 hb5 hg5).less (fun x hx => hx.elim))
  clear HV3 hs5 hg5 hb5 ho5 hz hzL
  go_wp2_with fail
  go_loopg [9, 39] n (fun kk sv iv w2 => ∃ (j : Nat) (d : St) (v : Va) (c : Ce) (L : List Bb) (hv : List Ch) (gs : Nat), sv = .pointer (some ⟨gs, 0, none⟩) ∧ iv = .int .i64 (j : Int) ∧ Hid (kk = n - j) ∧ Hid (j ≤ n) ∧ Hid (SI d v c L false) ∧ Hid (Hv v L hv) ∧
    Hid (d.n = 50 ∧ d.lim = none ∧ d.W.length ≤ 30 * j ∧ v.L.length ≤ 30 * j ∧ c.ver ≤ j ∧ c.mark ≤ 600000 ∧ j ≤ 25) ∧ Hid (On w (TS gd d gv v gc c gs 50 L false) w2 (fun _ => False)))
  case atStart => exact ⟨0, _, _, _, [], [], gs0, rfl, rfl, hid (by omega), hid (Nat.zero_le _), HSI0, hid (Hv.init _), hid ⟨rfl, rfl, Nat.zero_le _, Nat.zero_le _, Nat.zero_le _, Nat.zero_le _, by omega⟩, HV5⟩
  case round =>
  obtain ⟨j, d, v, c, L, hv, gs, rfl, rfl, hgk, hj, hSI, hHv, hbd, hV⟩ := hrel
  clear HV5
  rename World => w2
  rcases Nat.lt_or_ge j n with hlt | hge
  · have HJN := hid hlt
    have j1 : (0 : Int) ≤ (j : Int) := by omega
    have j2 : (j : Int) < (n : Int) := by omega
    have j3 : decide ((j : Int) < (n : Int)) = true := by simpa using hlt
    have j4 : decide (j < n) = true := by simpa using hlt
    have wj : wrap64 ((j : Int) + 1) = ((j + 1 : Nat) : Int) := by have := hbd.out; unfold wrap64; omega
    obtain ⟨b, off, o, rfl, hbl, hR0, hO0⟩ := HOPS.out j hlt
    have HO := hid hO0
    have hr0 := rangeAt_keep hR0 (hV.out.below.block b hbl)
    obtain ⟨c0', c1', c2, c3, c4, c5, c6, c7, c8⟩ := range9 hr0
    have hb3 : Below w2.heap.size w2 (w2.alloc (.cells #[.int .i64 (o).kind, .int .i64 (o).i, .int .i64 (o).fr, .slice (o).LA (o).Ln (o).Lc, .slice (o).BA (o).Bn (o).Bc, .slice (o).KA (o).Kn (o).Kc, .int .i64 (o).k.t, .int .i64 (o).k.c, .int .i64 (o).k.e] 56)) := (Below.refl _ _).alloc (Nat.le_refl _) _
    have HKB := hid (Blk.new w2 56 #[.int .i64 (o).kind, .int .i64 (o).i, .int .i64 (o).fr, .slice (o).LA (o).Ln (o).Lc, .slice (o).BA (o).Bn (o).Bc, .slice (o).KA (o).Kn (o).Kc, .int .i64 (o).k.t, .int .i64 (o).k.c, .int .i64 (o).k.e])
    obtain ⟨x0, x1, x2, x3, x4, x5, x6, x7, x8⟩ := opB_cells (o := o) HKB.out
    have HV3 := hid ((hV.out.add (TS.ok _ _ _ _ _ _ _ _ _ _) hb3 (Y := fun x => x = w2.heap.size) (fun x hx => by subst hx; simp)))
    clear hlt hbl hR0 hO0 hr0 hb3 hV
    by_cases h20 : 25 ≤ j
    · have m1 : decide ((25 : Int) ≤ (j : Int)) = true := by simp; omega
      have m2 : decide (25 ≤ j) = true := by simpa using h20
      clear h20
      go_wp2
      go_ret
      exact ⟨rfl, HV3.out.below⟩
    have m1 : decide ((25 : Int) ≤ (j : Int)) = false := by simp; omega
    have m2 : decide (25 ≤ j) = false := by simp; omega
    have HJ20 := hid h20
    clear h20
    have hlo := long_c o (w2.alloc (.cells #[.int .i64 (o).kind, .int .i64 (o).i, .int .i64 (o).fr, .slice (o).LA (o).Ln (o).Lc, .slice (o).BA (o).Bn (o).Bc, .slice (o).KA (o).Kn (o).Kc, .int .i64 (o).k.t, .int .i64 (o).k.c, .int .i64 (o).k.e] 56)) w.heap.size (HO.out.below HV3.out.below) HV3.out.below.size
    go_wp2_with fail
    clear m1 m2
    refine hlo.mono ?_
    rintro e w4 ⟨z, rfl, hb4, hz⟩
    have HV4 := hid (HV3.out.go (TS.ok _ _ _ _ _ _ _ _ _ _) hb4)
    have HK4 := hid (HKB.out.keep (hb4.block _ HKB.out.lt))
    clear hlo hb4 HKB HV3 x0 x1 x2 x3 x4 x5 x6 x7 x8 c0' c1' c2 c3 c4 c5 c6 c7 c8
    rcases hz with rfl | ⟨hz, hsm⟩
    · go_wp2
      go_ret
      exact ⟨rfl, HV4.out.below⟩
    have m1 : decide ((1000 : Int) ≤ z) = false := by simp; omega
    have m2 : ¬ (1000 : Int) ≤ z := by omega
    have HSM := hid hsm
    obtain ⟨x0, x1, x2, x3, x4, x5, x6, x7, x8⟩ := opB_cells (o := o) HK4.out
    generalize w2.heap.size = bo at *
    clear hz hsm
    have HLL : Hid (o.l.length = o.Ln) := hid HO.out.l.len
    have HCM := hid (SI.commit (s := ⟨d, v, c, L, false⟩) (l := o.l.map Hc.ch) hSI.out rfl hHv.out (by show v.L.length + _ ≤ _; rw [List.length_map, HLL.out]; have := hbd.out; have := HSM.out.l; omega) (fun x hx => by
      obtain ⟨y, hy, rfl⟩ := List.mem_map.1 hx
      obtain ⟨i, hi, rfl⟩ := List.mem_iff_getElem.1 hy
      exact (HO.out.l.el i hi).choose_spec.choose_spec.2.2.2.2.k))
    have hcm := commit_on (C := fun P => P) (q := o.Lc) Foc.self HV4.out ((HO.out.below HV4.out.below).l.mono fun b hb _ => .inr hb) (by have := HSM.out.l; omega) hSI.out.rg hSI.out.wf (fun x hx => by have := hSI.out.bl x hx; rw [show d.n = 50 from hbd.out.1] at this; exact this) hbd.out.1 (by show d.W.length ≤ _; have := hbd.out; omega) (by have := hbd.out; omega) (by have := hbd.out; omega)
    have HLN : Hid ((o.l.map Hc.ch).length ≤ 20) := hid (by rw [List.length_map, HLL.out]; exact HSM.out.l)
    generalize hcs : cmS ⟨d, v, c, L, false⟩ (o.l.map Hc.ch) = S at *
    clear hcs
    obtain ⟨E, d', v', c', L', dn'⟩ := S
    have HCO := hid hcm
    clear hcm
    go_wp2_with fail
    clear m1 m2
    refine HCO.out.mono ?_
    rintro e w6 ⟨rfl, hv6, hst6⟩
    have HDN : Hid (d'.lim = none ∧ dn' = false) := hid (HCM.out.1.on hbd.out.2.1)
    have hdn := HDN.out.2
    rw [hdn] at hv6
    have HV6 : Hid (On w (TS gd d' gv v' gc c' gs 50 L' false) w6 (fun _ => False)) := hid (hv6.less fun x hx => hx.elim)
    clear hv6 hst6 hdn HV4 HK4 HCO x0 x1 x2 x3 x4 x5 x6 x7 x8
    have HSI8 : Hid (SI d' v' c' L' false) := hid HCM.out.1.si
    have HVV : Hid (v'.L.length ≤ 30 * (j + 1) ∧ d'.n = 50 ∧ d'.lim = none ∧ d'.W.length ≤ 30 * (j + 1) ∧ c'.ver ≤ j + 1 ∧ c'.mark ≤ 600000) := hid (by
      obtain ⟨E', h1, h2⟩ := HCM.out.1.V
      have h3 := HCM.out.1.n
      have h4 := HCM.out.1.Wl
      have h5 := HLN.out
      have h6 := hbd.out
      have h8 := HDN.out
      have h7 : c'.ver ≤ c.ver + 1 := by
        by_cases hE : E = 0
        · have := (HCM.out.1.ok hE).2; dsimp only at this; omega
        · have := (HCM.out.1.er hE).2; dsimp only at this; rw [this]; omega
      have hvl : v'.L.length ≤ 30 * (j + 1) := by dsimp only at h1; rw [h1, List.length_append]; clear wj; omega
      have h9 : c'.mark ≤ 600000 := by
        by_cases hE : E = 0
        · have hp := (HCM.out.1.ok hE).2
          dsimp only at hp
          obtain ⟨h5, h6⟩ := HSI8.out.rt.at_ (by omega)
          have h7 := (List.getElem?_eq_some_iff.1 h6).1
          clear wj
          omega
        · have := (HCM.out.1.er hE).2; dsimp only at this; rw [this]; clear wj; omega
      dsimp only at h3 h4
      clear wj
      refine ⟨hvl, h3.trans h6.1, h8.1, by omega, by omega, h9⟩)
    have HHV8 : Hid (∃ hv', Hv v' L' hv') := hid ⟨_, HCM.out.1.hv⟩
    have HQ := hid (HSI8.out.clean (by have := HVV.out; have := HJ20.out; omega) HVV.out.2.2.1)
    have HRF := hid (rise_of HSI8.out.rg)
    have HLE : Hid (L'.length ≤ 1000) := hid HSI8.out.rg.2.2
    have HNM : Hid (∀ x ∈ L', x.nm.length ≤ maxLen) := hid (fun x hx => by have := (HSI8.out.rg.1 x hx).1.2; unfold maxLen; omega)
    clear HCM HDN hSI hHv hbd HO HSM HLL HLN
    obtain ⟨r, hr⟩ : ∃ r, r = j % 32 := ⟨_, rfl⟩
    obtain ⟨q1, q2, q3, q4, q5⟩ := ag_q hr
    have HR := hid hr
    clear hr
    go_wp2_with fail
    · go_roundg (n - (j + 1))
      case measure => exact meas_jb hgk.out HJN.out
      case rel =>
        obtain ⟨hv', hhv⟩ := HHV8.out
        exact ⟨j + 1, d', v', c', L', hv', gs, rfl, by first | rfl | rw [wj], hid rfl, hid HJN.out, HSI8, hid hhv, hid ⟨HVV.out.2.1, HVV.out.2.2.1, HVV.out.2.2.2.1, HVV.out.1, HVV.out.2.2.2.2.1, HVV.out.2.2.2.2.2, ag_25 HJ20.out⟩, HV6⟩
    clear q1 q2 q3 q4 q5
    refine (sopen_on (C := fun P => P.and (StO gs gd gv gc 50 L' false)) (d := d') (v := v') (c := c') (ts_t gs gd gv gc 50 L' false) (fun P h => h.and (StO.ok _ _ _ _ _ _ _)) HV6.out (by have := HVV.out; have := HJ20.out; omega) HVV.out.2.2.2.2.2).mono ?_
    rintro e w7 ⟨pp, rfl, hb7, -, ho7⟩
    obtain ⟨gt, G7, rfl, hs7, hg7⟩ := ho7 HQ.out.1
    rw [HQ.out.1]
    rw [HQ.out.2.1, HVV.out.2.1] at hs7
    have HV7 : Hid (On w ((TS gd d' gv v' gc c' gs 50 L' false).and (StO gt gd gv gc 50 L' false)) w7 (fun _ => False)) := hid (HV6.out.with_ (TS.ok _ _ _ _ _ _ _ _ _ _) hs7 hb7 hg7)
    clear hs7 hg7 ho7 hb7 HV6
    have HT1 : Hid (Foc fun P => P.and (StO gt gd gv gc 50 L' false)) := hid (ts_t gt gd gv gc 50 L' false)
    have HT2 : Hid (Foc fun P => P.and (StO gs gd gv gc 50 L' false)) := hid (ts_t gs gd gv gc 50 L' false)
    have HTO : Hid (((TS gd d' gv v' gc c' gs 50 L' false).and (StO gt gd gv gc 50 L' false)).Ok) := hid ((TS.ok _ _ _ _ _ _ _ _ _ _).and (StO.ok _ _ _ _ _ _ _))
    go_wp2_with fail
    refine (slist_on (HT1.out.comp (ts_s gd d' gv v' gc c')) HV7.out HRF.out (by have := HLE.out; omega) HNM.out).mono ?_
    rintro e w8 ⟨A8, k8, rfl, hr8, hb8⟩
    have HV8 : Hid (On w ((TS gd d' gv v' gc c' gs 50 L' false).and (StO gt gd gv gc 50 L' false)) w8 (fun _ => False)) := hid (HV7.out.go HTO.out hb8)
    have HR8 : Hid (BRow 90 w8 w7.heap.size A8 k8 L') := hid hr8
    clear hr8 hb8 HV7
    go_wp2_with fail
    refine (slist_on (HT2.out.comp (ts_s gd d' gv v' gc c')) (On.swap HV8.out) HRF.out (by have := HLE.out; omega) HNM.out).mono ?_
    rintro e w9 ⟨A9, k9, rfl, hr9, hb9⟩
    have HV9 : Hid (On w ((TS gd d' gv v' gc c' gs 50 L' false).and (StO gt gd gv gc 50 L' false)) w9 (fun _ => False)) := hid (HV8.out.go HTO.out hb9)
    have HR9 : Hid (BRow 90 w9 w8.heap.size A9 k9 L') := hid hr9
    have HP9 : Hid (BRow 90 w9 w7.heap.size A8 k8 L') := hid (World.ownsRow.below HR8.out hb9)
    clear hr9 hb9 HV8 HR8
    have hsm := ssame_c HP9.out HR9.out (by have := HLE.out; omega)
    rw [show decide (L' = L') = true from decide_eq_true rfl] at hsm
    have HSAM := hid hsm
    clear hsm
    go_wp2_with fail
    refine HSAM.out.mono ?_
    rintro e w10 ⟨rfl, hb10⟩
    have HV10 : Hid (On w ((TS gd d' gv v' gc c' gs 50 L' false).and (StO gt gd gv gc 50 L' false)) w10 (fun _ => False)) := hid (HV9.out.go HTO.out hb10)
    clear hb10 HV9 HR9 HP9 HSAM
    go_wp2_with fail
    refine (sfree_on (HT1.out.comp (ts_s gd d' gv v' gc c')) HV10.out (by decide)).mono ?_
    rintro e w11 ⟨rfl, rfl⟩
    go_wp2_with fail
    refine (sfree_on (HT2.out.comp (ts_s gd d' gv v' gc c')) (On.swap HV10.out) (by decide)).mono ?_
    rintro e w11 ⟨rfl, rfl⟩
    go_wp2_with fail
    refine (slist_on (HT1.out.comp (ts_s gd d' gv v' gc c')) HV10.out HRF.out (by have := HLE.out; omega) HNM.out).mono ?_
    rintro e w11 ⟨A11, k11, rfl, hr11, hb11⟩
    have HV11 : Hid (On w ((TS gd d' gv v' gc c' gs 50 L' false).and (StO gt gd gv gc 50 L' false)) w11 (fun _ => False)) := hid (HV10.out.go HTO.out hb11)
    have HR11 : Hid (BRow 90 w11 w10.heap.size A11 k11 L') := hid hr11
    clear hr11 hb11 HV10
    obtain ⟨m, hm⟩ : ∃ m, L'.length = m := ⟨_, rfl⟩
    rw [hm]
    have HML := hid hm
    have HM1 : Hid (m ≤ 1000) := hid (by rw [← hm]; exact HLE.out)
    clear hm
    go_wp2_with fail
    go_loopg [89] m (fun kk iv wr => ∃ k : Nat, iv = .int .i64 (k : Int) ∧ Hid (kk = m - k) ∧ Hid (k ≤ m) ∧ Hid (On w ((TS gd d' gv v' gc c' gs 50 L' false).and (StO gt gd gv gc 50 L' false)) wr (fun _ => False)) ∧ Hid (BRow 90 wr w10.heap.size A11 k11 L'))
    case atStart => exact ⟨0, rfl, hid rfl, hid (Nat.zero_le _), HV11, HR11⟩
    case round =>
    obtain ⟨k, rfl, hgk2, hk, hQ, hP⟩ := hrel
    clear HV11 HR11
    rename World => wr
    rcases Nat.lt_or_ge k m with hlt2 | hge2
    · have HKM := hid hlt2
      have hil : k < L'.length := by rw [HML.out]; exact hlt2
      have k1 : (0 : Int) ≤ (k : Int) := by omega
      have k2 : (k : Int) < (m : Int) := by omega
      have k3 : decide ((k : Int) < (m : Int)) = true := by simpa using hlt2
      have k4 : decide (k < m) = true := decide_eq_true hlt2
      have wk : wrap64 ((k : Int) + 1) = ((k + 1 : Nat) : Int) := ag_wk HM1.out hlt2
      obtain ⟨b7, hA7, hbl, hr⟩ := hP.out.elem hil
      have HMEM := hid (List.getElem_mem hil)
      generalize L'[k] = x at *
      obtain ⟨tx, he⟩ := HSI8.out.en x HMEM.out
      obtain ⟨hg1, hg2⟩ := HQ.out.2.2 x HMEM.out tx he
      have HG1 := hid hg1
      have HG2 := hid hg2
      have HSZ : Hid ((tx.length : Int) = x.sz) := hid he.2.2
      have HXN := hid (HNM.out x HMEM.out)
      obtain ⟨c0', c1', c2, c3, c4, c5, c6, c7, c8, c9, c10⟩ := range11 hr
      have HBX := hid (Blk.new wr 90 (#[.string (str x.nm), .int .i64 x.k.t, .int .i64 x.k.c, .int .i64 x.k.e, .int .i64 x.b, .int .i64 x.p.k.t, .int .i64 x.p.k.c, .int .i64 x.p.k.e, .int .i64 x.p.id, .int .i64 x.p.ver, .int .i64 x.sz]))
      have hbx : Below wr.heap.size wr (wr.alloc (.cells (#[.string (str x.nm), .int .i64 x.k.t, .int .i64 x.k.c, .int .i64 x.k.e, .int .i64 x.b, .int .i64 x.p.k.t, .int .i64 x.p.k.c, .int .i64 x.p.k.e, .int .i64 x.p.id, .int .i64 x.p.ver, .int .i64 x.sz]) 90)) := (Below.refl _ _).alloc (Nat.le_refl _) _
      have HQ2 := hid (hQ.out.go HTO.out hbx)
      have HP2 : Hid (BRow 90 (wr.alloc (.cells (#[.string (str x.nm), .int .i64 x.k.t, .int .i64 x.k.c, .int .i64 x.k.e, .int .i64 x.b, .int .i64 x.p.k.t, .int .i64 x.p.k.c, .int .i64 x.p.k.e, .int .i64 x.p.id, .int .i64 x.p.ver, .int .i64 x.sz]) 90)) w10.heap.size A11 k11 L') := hid (World.ownsRow.below hP.out hbx)
      have x0 : (wr.alloc (.cells (#[.string (str x.nm), .int .i64 x.k.t, .int .i64 x.k.c, .int .i64 x.k.e, .int .i64 x.b, .int .i64 x.p.k.t, .int .i64 x.p.k.c, .int .i64 x.p.k.e, .int .i64 x.p.id, .int .i64 x.p.ver, .int .i64 x.sz]) 90)).cell? ⟨wr.heap.size, 0, none⟩ = some (.string (str x.nm)) := (HBX.out.cell 0).trans rfl
      subst hA7
      have HG := hid (sget_on (C := fun P => P.and (StO gt gd gv gc 50 L' false)) HT1.out (fun P h => h.and (StO.ok _ _ _ _ _ _ _)) HQ2.out x.nm HXN.out (fun y hy => ⟨HSI8.out.wf y hy, (HSI8.out.rg.1 y hy).2.2.1⟩))
      clear hlt2 hil hr hbl hg1 hg2 he hQ hP hbx
      go_wp2_with fail
      clear c0' c1' c2 c3 c4 c5 c6 c7 c8 c9 c10
      refine HG.out.mono ?_
      rintro e w12 ⟨A12, m12, k12, rfl, ho12, -, hb12⟩
      rw [HG1.out]
      rw [HG2.out] at ho12
      have HQ3 := hid (HQ2.out.go HTO.out hb12)
      have HP3 : Hid (BRow 90 w12 w10.heap.size _ k11 L') := hid (World.ownsRow.below HP2.out hb12)
      have HO3 := hid ho12
      have HBX3 := hid (HBX.out.keep (hb12.block _ HBX.out.lt))
      have HML12 : Hid ((m12 : Int) = x.sz) := hid (by rw [← HSZ.out]; have := ho12.1; rw [bs_len] at this; omega)
      have x0' : w12.cell? ⟨wr.heap.size, 0, none⟩ = some (.string (str x.nm)) := (HBX3.out.cell 0).trans rfl
      have HG' := hid (sget_on (C := fun P => P.and (StO gs gd gv gc 50 L' false)) HT2.out (fun P h => h.and (StO.ok _ _ _ _ _ _ _)) (On.swap HQ3.out) x.nm HXN.out (fun y hy => ⟨HSI8.out.wf y hy, (HSI8.out.rg.1 y hy).2.2.1⟩))
      clear x0 HG HQ2 HP2 HBX ho12 hb12
      go_wp2_with fail
      refine HG'.out.mono ?_
      rintro e w13 ⟨A13, m13, k13, rfl, ho13, -, hb13⟩
      rw [HG1.out]
      rw [HG2.out] at ho13
      have HQ4 := hid (HQ3.out.go HTO.out hb13)
      have HP4 : Hid (BRow 90 w13 w10.heap.size _ k11 L') := hid (World.ownsRow.below HP3.out hb13)
      have hs1 := own_str (c := k12) (World.ownsRow.below HO3.out hb13)
      have hs2 := own_str (c := k13) ho13
      have x10 : w13.cell? ⟨wr.heap.size, 10, none⟩ = some (.int .i64 (m12 : Int)) := by rw [HML12.out]; exact ((HBX3.out.keep (hb13.block _ HBX3.out.lt)).cell 10).trans rfl
      clear x0' HG' HQ3 HP3 HBX3 ho13 hb13 HO3
      go_wp2_with fail
      go_roundg (m - (k + 1))
      case measure => exact meas_jb hgk2.out HKM.out
      case rel => exact ⟨k + 1, by first | rfl | rw [wk], hid rfl, hid HKM.out, HQ4, HP4⟩
    · have hkm : k = m := by have := hk.out; omega
      subst hkm
      have k2 : ¬ (k : Int) < (k : Int) := by omega
      have HQE := hid (On.drop (On.swap hQ.out))
      clear hge2 hk hgk2
      go_wp2_with fail
      go_roundg (n - (j + 1))
      case measure => exact meas_jb hgk.out HJN.out
      case rel =>
        obtain ⟨hv', hhv⟩ := HHV8.out
        exact ⟨j + 1, d', v', c', L', hv', gt, rfl, by first | rfl | rw [wj], hid rfl, hid HJN.out, HSI8, hid hhv, hid ⟨HVV.out.2.1, HVV.out.2.2.1, HVV.out.2.2.2.1, HVV.out.1, HVV.out.2.2.2.2.1, HVV.out.2.2.2.2.2, ag_25 HJ20.out⟩, HQE⟩
  · have hjn : j = n := by have := hj.out; omega
    subst hjn
    have j2 : ¬ (j : Int) < (j : Int) := by omega
    clear hge hj hgk
    go_wp2
    go_ret
    exact ⟨rfl, hV.out.below⟩
end Go.Proofs.YtdkbpjkoiegflaaGreat
