import Derived.Test.YtolaojkcofbkhaaGreatRsW
import Derived.Deep.LoopGhost
import Derived.Deep.DeepCutAuto
import Derived.Deep.CutBlock
namespace Go.Proofs.YtolaojkcofbkhaaGreat
set_option maxRecDepth 100000
set_option maxHeartbeats 32000000
open Go.RowKit
theorem kmod20 (i : Int) : ∃ k : Nat, k < 20 ∧ wrap64 (1 + wrap64 ((IntKind.u64.wrap i).tmod 20)) = ((k + 1 : Nat) : Int) ∧ wrap64 ((IntKind.u64.wrap i).tmod 20) = (k : Int) ∧ wrap64 (1 + (k : Int)) = ((k + 1 : Nat) : Int) := by
 obtain ⟨k, h1, h2⟩ := kmod i 20 (by decide) (by decide)
 rw [show ((20 : Nat) : Int) = 20 from rfl] at h2
 have h3 : wrap64 (1 + (k : Int)) = ((k + 1 : Nat) : Int) := by clear h2; unfold wrap64; omega
 exact ⟨k, h1, by rw [h2, h3], h2, h3⟩
theorem so_small {n : Nat} (h : n < 2) : soE (St.new n) Va.new ⟨0, 0⟩ = 2 := if_pos h
theorem OpsT.at_ {w w' : World} {hi n m : Nat} {A : Option Addr} (h : OpsT w hi A n) (hb : Below hi w w') (hm : m ≤ n) : OpsT w' hi A m := fun j hj => by
 obtain ⟨b, off, o, e, h1, h2, h3⟩ := h j (Nat.lt_of_lt_of_le hj hm)
 exact ⟨b, off, o, e, h1, rangeAt_keep h2 (hb.block b h1), h3.below hb⟩
theorem pl_meas {k m j : Nat} (h : k = m - j) (hj : j < m) : m - (j + 1) < k := by omega
theorem pl_w {k m : Nat} (h : m ≤ 30) (hk : k < m) : wrap64 ((k : Int) + 1) = ((k + 1 : Nat) : Int) := by unfold wrap64; omega
theorem pl_s30 {j : Nat} (h : ¬ 30 ≤ j) : j + 1 ≤ 30 := by omega
theorem walkStorePlays (bl : Int) (A : Option Addr) (n c0 : Nat) (w : World) (_w0 : (Lit.int .i64 bl).wf = true) (hops : (OpsT w w.heap.size A n ∧ n ≤ 9223372036854775807) ∧ n ≤ c0) :
 Calls Tryz.prog 3 #[.int .i64 bl, .slice A n c0] w fun e w' => e = .returned (.bool true) ∧ Below w.heap.size w w' := by
 obtain ⟨k0, hk0, hkw, hkw2, hkw3⟩ := kmod20 bl
 have HK0 : Hid (k0 + 1 ≤ 20) := hid (by omega)
 have HK1 : Hid (1 ≤ k0 + 1) := hid (by omega)
 have HOPS := hid hops.1.1
 have HN := hid hops.1.2
 have HCAP := hid hops.2
 clear hops hk0
 generalize k0 + 1 = m at *
 rw [hkw2] at hkw
 go_enter Tryz.func3, Tryz.ntmps3
 go_wp2_with fail
 refine (stfirst_c w).mono ?_
 rintro e w1 ⟨rfl, hb1⟩
 have HB1 := hid hb1
 clear hb1
 go_wp2_with fail
 try rw [hkw]
 refine (dnew_onX w w1 HB1.out m HK1.out (by have := HK0.out; omega) (fun _ => False) (fun x hx => hx.elim)).mono ?_
 rintro e w2 ⟨gd, rfl, hv2, -⟩
 have HV2 := hid hv2
 clear hv2 HB1
 go_wp2_with fail
 refine (vnew_on HV2.out).mono ?_
 rintro e w3 ⟨gv, rfl, hv3, -⟩
 have HV3 := hid (tc_new hv3).1
 clear hv3 HV2
 go_wp2_with fail
 generalize w3.heap.size = gc at *
 generalize w3.alloc (.cells #[.int .i64 0, .int .i64 0] 33) = w3' at *
 try rw [hkw]
 refine (rnew_c m w3' HK1.out (by have := HK0.out; omega)).mono ?_
 rintro e w4 ⟨ge, G4, rfl, hd4, hb4, hG4⟩
 have HV5 := hid (ab_new HV3.out hd4 hb4 hG4)
 clear hd4 hb4 hG4 HV3 hkw hkw2 hkw3
 go_wp2_with fail
 generalize w4.heap.size + 1 = gz at *
 generalize w4.heap.size = gw at *
 generalize (w4.alloc (.cells #[.slice none 0 0, .slice none 0 0] 40)).alloc (.cells #[.int .i64 0, .int .i64 0] 43) = w5 at *
 refine (sopen_on (foc_a ge (St.new m) gw Va.new gz ⟨0, 0⟩) (fun _ h => h.and (TR.ok _ _ _ _ _ _)) HV5.out (by decide) (by decide)).mono ?_
 rintro e w6 ⟨p, rfl, hb6, hn6, hy6⟩
 rcases Nat.lt_or_ge m 2 with hm2 | hm2
 · have hz := so_small hm2
   have HZ := hid hz
   obtain rfl := hn6 (by rw [hz]; decide)
   have HV6 := hid (HV5.out.go (AB.ok _ _ _ _ _ _ _ _ _ _ _ _) hb6)
   rw [hz]
   clear hm2 hz hn6 hy6 hb6 HV5
   as_aux_lemma =>
   go_wp2_with fail
   refine (rsopen_on (foc_b gd (St.new m) gv Va.new gc ⟨0, 0⟩) (fun _ h => (TC.ok _ _ _ _ _ _).and h) HV6.out (Nat.zero_le _) (Nat.zero_le _) (Nat.zero_le _) (Nat.zero_le _) (Nat.zero_le _) (Nat.zero_le _)).mono ?_
   rintro e w7 ⟨q, rfl, hb7, hn7, -⟩
   have HV7 := hid (HV6.out.go (AB.ok _ _ _ _ _ _ _ _ _ _ _ _) hb7)
   obtain rfl := hn7 (by rw [HZ.out]; decide)
   rw [HZ.out]
   clear hn7 hb7 HV6
   go_wp2
   go_ret
   exact ⟨rfl, HV7.out.below⟩
 have HM2 := hid hm2
 obtain ⟨hz, hzL⟩ := so_new (n := m) hm2
 have HZ := hid (And.intro hz hzL)
 obtain ⟨gs0, G6, rfl, hs6, hg6⟩ := hy6 hz
 rw [hz]
 rw [hzL] at hs6
 have HV6 := hid (HV5.out.with_ (AB.ok _ _ _ _ _ _ _ _ _ _ _ _) hs6 hb6 hg6)
 clear hm2 hz hzL hn6 hy6 hs6 hg6 hb6 HV5
 go_wp2_with fail
 refine (rsopen_on ((Foc.one Foc.self (StO.ok gs0 gd gv gc m [] false)).comp (foc_b gd (St.new m) gv Va.new gc ⟨0, 0⟩)) (fun _ h => ((TC.ok _ _ _ _ _ _).and h).and (StO.ok _ _ _ _ _ _ _)) HV6.out (Nat.zero_le _) (Nat.zero_le _) (Nat.zero_le _) (Nat.zero_le _) (Nat.zero_le _) (Nat.zero_le _)).mono ?_
 rintro e w7 ⟨q, rfl, hb7, -, hy7⟩
 obtain ⟨hs0, G7, rfl, hs7, hg7⟩ := hy7 HZ.out.1
 rw [HZ.out.1]
 rw [HZ.out.2] at hs7
 have HV7 : Hid (On w (PP gd gv gc gs0 ge gw gz hs0 m (St.new m) Va.new ⟨0, 0⟩ [] false (St.new m) Va.new ⟨0, 0⟩ [] false) w7 (fun _ => False)) := hid ((HV6.out.with_ ((AB.ok _ _ _ _ _ _ _ _ _ _ _ _).and (StO.ok _ _ _ _ _ _ _)) hs7 hb7 hg7).regr)
 clear hy7 hs7 hg7 hb7 HV6 HZ
 go_wp2_with fail
 go_loopg [13, 15, 82] n (fun kk sv tv iv wr => ∃ (j : Nat) (d : St) (v t : Va) (c : Ce) (L : List Bb) (dn : Bool) (gs hs : Nat), sv = .pointer (some ⟨gs, 0, none⟩) ∧ tv = .pointer (some ⟨hs, 0, none⟩) ∧ iv = .int .i64 (j : Int) ∧ Hid (kk = n - j) ∧ Hid (j ≤ n) ∧ Hid (j ≤ 30) ∧ Hid (SG m d v t c L j) ∧ Hid (On w (PP gd gv gc gs ge gw gz hs m d v c L dn d t c L dn) wr (fun _ => False)))
 case atStart => exact ⟨0, _, _, _, _, _, _, gs0, hs0, rfl, rfl, rfl, hid (by omega), hid (Nat.zero_le _), hid (by decide), hid ⟨rfl, Nat.zero_le _, Nat.zero_le _, Nat.zero_le _, Nat.zero_le _, Nat.zero_le _, Sim.new, VB.new, ⟨fun x hx => (by cases hx), List.Pairwise.nil, by simp⟩, fun x hx => (by cases hx), fun x hx => (by cases hx)⟩, HV7⟩
 case round =>
 obtain ⟨j, d, v, t, c, L, dn, gs, hs, rfl, rfl, rfl, hgk, hj, hj30, hSG, hV⟩ := hrel
 clear HV7
 rename World => w2
 rcases Nat.lt_or_ge j n with hlt | hge
 · have HJN := hid hlt
   have j1 : (0 : Int) ≤ (j : Int) := by omega
   have j2 : (j : Int) < (n : Int) := by omega
   have j3 : decide ((j : Int) < (n : Int)) = true := by simpa using hlt
   have j4 : decide (j < n) = true := by simpa using hlt
   have wj : wrap64 ((j : Int) + 1) = ((j + 1 : Nat) : Int) := by have := hj30.out; unfold wrap64; omega
   obtain ⟨b, off, o, rfl, hbl, hR0, hO0⟩ := HOPS.out j hlt
   have HO := hid hO0
   have hr0 := rangeAt_keep hR0 (hV.out.below.block b hbl)
   obtain ⟨c0', c1', c2, c3, c4, c5, c6, c7, c8⟩ := range9 hr0
   have hb3 : Below w2.heap.size w2 (w2.alloc (.cells #[.int .i64 (o).kind, .int .i64 (o).i, .int .i64 (o).fr, .slice (o).LA (o).Ln (o).Lc, .slice (o).BA (o).Bn (o).Bc, .slice (o).KA (o).Kn (o).Kc, .int .i64 (o).k.t, .int .i64 (o).k.c, .int .i64 (o).k.e] 56)) := (Below.refl _ _).alloc (nl _) _
   have HKB := hid (Blk.new w2 56 #[.int .i64 (o).kind, .int .i64 (o).i, .int .i64 (o).fr, .slice (o).LA (o).Ln (o).Lc, .slice (o).BA (o).Bn (o).Bc, .slice (o).KA (o).Kn (o).Kc, .int .i64 (o).k.t, .int .i64 (o).k.c, .int .i64 (o).k.e])
   obtain ⟨x0, x1, x2, x3, x4, x5, x6, x7, x8⟩ := opB_cells (o := o) HKB.out
   have HV3 := hid ((hV.out.add (PP.ok _ _ _ _ _ _ _ _ _ _ _ _ _ _ _ _ _ _ _) hb3 (Y := fun x => x = w2.heap.size) (fun x hx => by subst hx; simp)).less (fun x hx => .inr hx))
   clear hlt hbl hR0 hO0 hr0 hb3 hV
   by_cases h20 : 30 ≤ j
   · have m1 : decide ((30 : Int) ≤ (j : Int)) = true := by simp; omega
     have m2 : decide (30 ≤ j) = true := by simpa using h20
     clear h20
     go_wp2
     go_ret
     exact ⟨rfl, HV3.out.below⟩
   have m1 : decide ((30 : Int) ≤ (j : Int)) = false := by simp; omega
   have m2 : decide (30 ≤ j) = false := by simp; omega
   have HJ20 := hid h20
   clear h20
   have hlo := long_c o (w2.alloc (.cells #[.int .i64 (o).kind, .int .i64 (o).i, .int .i64 (o).fr, .slice (o).LA (o).Ln (o).Lc, .slice (o).BA (o).Bn (o).Bc, .slice (o).KA (o).Kn (o).Kc, .int .i64 (o).k.t, .int .i64 (o).k.c, .int .i64 (o).k.e] 56)) w.heap.size (HO.out.below HV3.out.below) HV3.out.below.size
   go_wp2_with fail
   clear m1 m2
   refine hlo.mono ?_
   rintro e w4 ⟨z, rfl, hb4, hz⟩
   have HV4 := hid (HV3.out.go (PP.ok _ _ _ _ _ _ _ _ _ _ _ _ _ _ _ _ _ _ _) hb4)
   have HK4 := hid (HKB.out.keep (hb4.block _ HKB.out.lt))
   clear hlo hb4 HKB HV3 x0 x1 x2 x3 x4 x5 x6 x7 x8 c0' c1' c2 c3 c4 c5 c6 c7 c8
   rcases hz with rfl | ⟨hz, hsm⟩
   · go_wp2
     go_ret
     exact ⟨rfl, HV4.out.below⟩
   have m1 : decide ((1000 : Int) ≤ z) = false := by simp; omega
   have m2 : ¬ (1000 : Int) ≤ z := by omega
   have HSM := hid hsm
   obtain ⟨x0, x1, x2, x3, x4, x5, x6, x7, x8⟩ := opB_cells (o := o) HK4.out
   generalize w2.heap.size = bo at *
   clear hz hsm
   obtain ⟨kd, hkd, hkm⟩ := kmod0 o.kind 7 (by decide)
   rw [show ((7 : Nat) : Int) = 7 from rfl] at hkm
   have HKD := hid hkd
   have HLL : Hid (o.l.length = o.Ln) := hid HO.out.l.len
   clear hkd
   go_upto_block 2 with fail
   clear m1 m2 x0 x1 x2 x3 x4 x5 x6 x7 x8
   go_cut [13, 15] (fun sv tv wx => ∃ (d' : St) (v' t' : Va) (c' : Ce) (L' : List Bb) (dn' : Bool) (gs' hs' : Nat), sv = .pointer (some ⟨gs', 0, none⟩) ∧ tv = .pointer (some ⟨hs', 0, none⟩) ∧ Hid (SG m d' v' t' c' L' (j + 1)) ∧ Hid (On w (PP gd gv gc gs' ge gw gz hs' m d' v' c' L' dn' d' t' c' L' dn') wx (fun _ => False)))
   case first =>
    rcases (show kd = 0 ∨ kd = 1 ∨ kd = 2 ∨ kd = 3 ∨ kd = 4 ∨ kd = 5 ∨ kd = 6 by clear hkm; have := HKD.out; omega) with rfl | rfl | rfl | rfl | rfl | rfl | rfl
    all_goals clear HKD
    · as_aux_lemma =>
      have hc1 : ∀ wx, On w (PP gd gv gc gs ge gw gz hs m d v c L dn d t c L dn) wx (fun x => x = bo) → Calls Tryz.prog 18 #[.pointer (some ⟨gs, 0, none⟩), .slice o.LA o.Ln o.Lc] wx _ := fun wx hx => p_commit (q := o.Lc) hx ((HO.out.below hx.below).l.mono fun b hb _ => .inr hb) (by clear hkm; have := HSM.out.l; omega) hSG.out.rg hSG.out.wf hSG.out.bl hSG.out.sz (by clear hkm; have := hSG.out.W; have := hj30.out; omega) (by clear hkm; have := hSG.out.vl; have := hj30.out; omega) (by clear hkm; have := hSG.out.ver; have := hj30.out; omega)
      have hsg := hSG.out.commit (l := o.l) (fun x hx => by
       obtain ⟨i, hi, rfl⟩ := List.mem_iff_getElem.1 hx
       exact (HO.out.l.el i hi).choose_spec.choose_spec.2.2.2.2.k) (by rw [HLL.out]; exact HSM.out.l) (by clear hkm; have := HK0.out; omega) hj30.out dn
      obtain ⟨s1, s2, s3, s4, s5, s6⟩ := hSG.out.sim.cmS d c L dn (o.l.map Hc.ch)
      have hc2 : ∀ d' v' c' L' dn' wx, On w (PP gd gv gc gs ge gw gz hs m d' v' c' L' dn' d t c L dn) wx (fun x => x = bo) → Calls Tryz.prog 19 #[.pointer (some ⟨hs, 0, none⟩), .slice o.LA o.Ln o.Lc] wx _ := fun d' v' c' L' dn' wx hx => p_rcommit (q := o.Lc) hx ((HO.out.below hx.below).l.mono fun b hb _ => .inr hb) HO.out.lc (by clear hkm; have := HSM.out.l; omega) hSG.out.rg hSG.out.wf (by rw [hSG.out.sz]; exact HM2.out) (by clear hkm; have := hSG.out.W; have := hj30.out; omega) (by clear hkm; have := hSG.out.V; have := hj30.out; omega) (by clear hkm; have := hSG.out.G; have := hj30.out; omega) (by clear hkm; have := hSG.out.ver; have := hj30.out; omega)
      generalize cmS ⟨d, v, c, L, dn⟩ (o.l.map Hc.ch) = S at hc1 hsg s1 s2 s3 s4 s5 s6
      generalize cmS ⟨d, t, c, L, dn⟩ (o.l.map Hc.ch) = T at hc2 hsg s1 s2 s3 s4 s5 s6
      obtain ⟨E, d2, v2, c2, L2, dn2⟩ := S
      obtain ⟨E2, d3, t2, c3, L3, dn3⟩ := T
      dsimp only at hc1 hc2 hsg s1 s2 s3 s4 s5 s6
      subst s1 s2 s4 s5 s6
      have HC1 := hid hc1
      have HC2 := hid (hc2 d2 v2 c2 L2 dn2)
      have HS2 := hid hsg
      clear hc1 hc2 hsg s3
      go_wp2_with fail
      have K3 : Hid (Blk w4.drew bo 56 #[.int .i64 (o).kind, .int .i64 (o).i, .int .i64 (o).fr, .slice (o).LA (o).Ln (o).Lc, .slice (o).BA (o).Bn (o).Bc, .slice (o).KA (o).Kn (o).Kc, .int .i64 (o).k.t, .int .i64 (o).k.c, .int .i64 (o).k.e]) := hid HK4.out
      have V3 := hid (HV4.out.go (PP.ok _ _ _ _ _ _ _ _ _ _ _ _ _ _ _ _ _ _ _) (wr' := w4.drew) ((Below.refl _ _).drew))
      clear HV4 HK4
      refine wp_region_held_drew (S := fun wx => Blk wx bo 56 #[.int .i64 (o).kind, .int .i64 (o).i, .int .i64 (o).fr, .slice (o).LA (o).Ln (o).Lc, .slice (o).BA (o).Bn (o).Bc, .slice (o).KA (o).Kn (o).Kc, .int .i64 (o).k.t, .int .i64 (o).k.c, .int .i64 (o).k.e]) (by kernel_rfl) K3.out (fun HS => ?_)
      generalize w4.drew = w3 at *
      refine qT 0 ?va0 ?ya0 HS ?ra0
      case ya0 => refine qI fun wS hSw => ?_; go_simp; try with_reducible rfl
      try simp only [Act.put, zA]
      refine qT 1 ?va1 ?ya1 HS ?ra1
      case ya1 =>
       refine qI fun wS hSw => ?_
       obtain ⟨x0, x1, x2, x3, x4, x5, x6, x7, x8⟩ := opB_cells (o := o) hSw
       go_simp
       try with_reducible rfl
      try simp only [Act.put, zA]
      refine qT 2 ?va2 ?ya2 HS ?ra2
      case ya2 =>
       refine qI fun wS hSw => ?_
       obtain ⟨x0, x1, x2, x3, x4, x5, x6, x7, x8⟩ := opB_cells (o := o) hSw
       go_simp
       try with_reducible rfl
      try simp only [Act.put, zA]
      refine qT 4 ?va4 ?ya4 HS ?ra4
      case ya4 => refine qI fun wS hSw => ?_; go_simp; try with_reducible rfl
      try simp only [Act.put, zA]
      refine qT 5 ?va5 ?ya5 HS ?ra5
      case ya5 =>
       refine qI fun wS hSw => ?_
       obtain ⟨x0, x1, x2, x3, x4, x5, x6, x7, x8⟩ := opB_cells (o := o) hSw
       go_simp
       try with_reducible rfl
      try simp only [Act.put, zA]
      refine qT 6 ?va6 ?ya6 HS ?ra6
      case ya6 =>
       refine qI fun wS hSw => ?_
       obtain ⟨x0, x1, x2, x3, x4, x5, x6, x7, x8⟩ := opB_cells (o := o) hSw
       go_simp
       try with_reducible rfl
      try simp only [Act.put, zA]
      refine qR 3 fun K hK => ?_
      go_simp
      refine (HC1.out _ V3.out).mono ?_
      rintro e w5 ⟨rfl, hv5, hk5⟩
      have V5 := hid hv5
      have K5 : Hid (Blk w5 bo 56 #[.int .i64 (o).kind, .int .i64 (o).i, .int .i64 (o).fr, .slice (o).LA (o).Ln (o).Lc, .slice (o).BA (o).Bn (o).Bc, .slice (o).KA (o).Kn (o).Kc, .int .i64 (o).k.t, .int .i64 (o).k.c, .int .i64 (o).k.e]) := hid (K3.out.keep (hk5.2 bo rfl))
      clear hv5 hk5
      refine hK.out _ _ K5.out (fun HS => ?_)
      clear hK K
      try simp only [Act.put, zA]
      refine qR 7 fun K hK => ?_
      go_simp
      refine (HC2.out _ V5.out).mono ?_
      rintro e w6 ⟨rfl, hv6, hk6⟩
      have V6 := hid hv6
      have K6 : Hid (Blk w6 bo 56 #[.int .i64 (o).kind, .int .i64 (o).i, .int .i64 (o).fr, .slice (o).LA (o).Ln (o).Lc, .slice (o).BA (o).Bn (o).Bc, .slice (o).KA (o).Kn (o).Kc, .int .i64 (o).k.t, .int .i64 (o).k.c, .int .i64 (o).k.e]) := hid (K5.out.keep (hk6.2 bo rfl))
      clear hv6 hk6
      refine hK.out _ _ K6.out (fun HS => ?_)
      clear hK K
      try simp only [Act.put, zA]
      refine qT 8 ?va8 ?ya8 HS ?ra8
      case ya8 => refine qI fun wS hSw => ?_; go_simp; try with_reducible rfl
      try simp only [Act.put, zA]
      refine qD ?_
      clear HS hkm HC1 HC2
      go_wp2_with fail
      go_meet
      case rel => exact ⟨_, _, _, _, _, _, gs, hs, rfl, rfl, hid (HS2.out), hid (V6.out.less fun x hx => hx.elim)⟩
    · as_aux_lemma =>
      obtain ⟨x0, x1, x2, x3, x4, x5, x6, x7, x8⟩ := opB_cells (o := o) HK4.out
      go_wp2_with fail
      refine (p_limit HV4.out o.i HO.out.i1.2).mono ?_
      rintro e w5 ⟨rfl, hv5, hk5⟩
      have V5 := hid hv5
      have K5 : Hid (Blk w5 bo 56 #[.int .i64 (o).kind, .int .i64 (o).i, .int .i64 (o).fr, .slice (o).LA (o).Ln (o).Lc, .slice (o).BA (o).Bn (o).Bc, .slice (o).KA (o).Kn (o).Kc, .int .i64 (o).k.t, .int .i64 (o).k.c, .int .i64 (o).k.e]) := hid (HK4.out.keep (hk5.2 bo rfl))
      clear hv5 hk5
      clear HV4 HK4 x0 x1 x2 x3 x4 x5 x6 x7 x8
      obtain ⟨x0, x1, x2, x3, x4, x5, x6, x7, x8⟩ := opB_cells (o := o) K5.out
      go_wp2_with fail
      refine (p_rbound V5.out o.i HO.out.i1.2).mono ?_
      rintro e w6 ⟨rfl, hv6, hk6⟩
      have V6 := hid hv6
      have K6 : Hid (Blk w6 bo 56 #[.int .i64 (o).kind, .int .i64 (o).i, .int .i64 (o).fr, .slice (o).LA (o).Ln (o).Lc, .slice (o).BA (o).Bn (o).Bc, .slice (o).KA (o).Kn (o).Kc, .int .i64 (o).k.t, .int .i64 (o).k.c, .int .i64 (o).k.e]) := hid (K5.out.keep (hk6.2 bo rfl))
      clear hv6 hk6
      clear V5 K5 x0 x1 x2 x3 x4 x5 x6 x7 x8 hkm
      go_wp2_with fail
      go_meet
      case rel => exact ⟨_, _, _, _, _, _, gs, hs, rfl, rfl, hid (hSG.out.dev (d' := d.bound o.i) rfl (Nat.le_succ _)), hid (V6.out.less fun x hx => hx.elim)⟩
    · as_aux_lemma =>
      obtain ⟨x0, x1, x2, x3, x4, x5, x6, x7, x8⟩ := opB_cells (o := o) HK4.out
      go_wp2_with fail
      refine (p_crash HV4.out o.KA o.Kn o.Kc o.ks (HO.out.k.below HV4.out.below (nl _)) (Nat.le_trans (show d.W.length ≤ 900 by clear hkm; have := hSG.out.W; have := hj30.out; omega) (by decide))).mono ?_
      rintro e w5 ⟨rfl, hv5, hk5⟩
      have V5 := hid hv5
      have K5 : Hid (Blk w5 bo 56 #[.int .i64 (o).kind, .int .i64 (o).i, .int .i64 (o).fr, .slice (o).LA (o).Ln (o).Lc, .slice (o).BA (o).Bn (o).Bc, .slice (o).KA (o).Kn (o).Kc, .int .i64 (o).k.t, .int .i64 (o).k.c, .int .i64 (o).k.e]) := hid (HK4.out.keep (hk5.2 bo rfl))
      clear hv5 hk5
      clear HV4 HK4 x0 x1 x2 x3 x4 x5 x6 x7 x8
      obtain ⟨x0, x1, x2, x3, x4, x5, x6, x7, x8⟩ := opB_cells (o := o) K5.out
      go_wp2_with fail
      refine (p_rcrash V5.out o.KA o.Kn o.Kc o.ks (HO.out.k.below V5.out.below (nl _)) (Nat.le_trans (show d.W.length ≤ 900 by clear hkm; have := hSG.out.W; have := hj30.out; omega) (by decide))).mono ?_
      rintro e w6 ⟨rfl, hv6, hk6⟩
      have V6 := hid hv6
      have K6 : Hid (Blk w6 bo 56 #[.int .i64 (o).kind, .int .i64 (o).i, .int .i64 (o).fr, .slice (o).LA (o).Ln (o).Lc, .slice (o).BA (o).Bn (o).Bc, .slice (o).KA (o).Kn (o).Kc, .int .i64 (o).k.t, .int .i64 (o).k.c, .int .i64 (o).k.e]) := hid (K5.out.keep (hk6.2 bo rfl))
      clear hv6 hk6
      clear V5 K5 x0 x1 x2 x3 x4 x5 x6 x7 x8
      go_wp2_with fail
      refine (p_open V6.out (by clear hkm; have := hSG.out.ver; have := hj30.out; omega) (by clear hkm; have := hSG.out.mark; have := hj30.out; omega)).mono ?_
      rintro e w7 ⟨p, rfl, hb7, hn7, hy7⟩
      have HSG2 := hid (hSG.out.dev (d' := d.crash o.ks) rfl (Nat.zero_le _))
      have HSO := hid (And.intro (hSG.out.sim.soE (d.crash o.ks) c) (hSG.out.sim.soL (d.crash o.ks) c))
      rcases Classical.em (soE (d.crash o.ks) v c = 0) with hz | hz
      · obtain ⟨gs1, G7, rfl, hs7, hg7⟩ := hy7 hz
        rw [HSG2.out.sz] at hs7
        have HQ7 := hid (V6.out.with_ (PP.ok _ _ _ _ _ _ _ _ _ _ _ _ _ _ _ _ _ _ _) hs7 hb7 hg7)
        have HZ := hid hz
        rw [hz]
        clear hz hn7 hy7 hs7 hg7 hb7 V6
        as_aux_lemma =>
        go_wp2_with fail
        refine (p_ropen (StO.ok _ _ _ _ _ _ _) HQ7.out (by clear hkm; have := HSG2.out.W; have := hj30.out; omega) (by clear hkm; have := hSG.out.G; have := hj30.out; omega) (by clear hkm; have := hSG.out.V; have := hj30.out; omega) (by clear hkm; have := hSG.out.ver; have := hj30.out; omega) (by clear hkm; have := hSG.out.mark; have := hj30.out; omega) (hSG.out.vb.gtB _ _)).mono ?_
        rintro e w8 ⟨q, rfl, hb8, -, hy8⟩
        obtain ⟨hs1, G8, rfl, hs8, hg8⟩ := hy8 (HSO.out.1.symm.trans HZ.out)
        rw [HSO.out.1.symm.trans HZ.out]
        rw [← HSO.out.2] at hs8
        have HQ8 := hid ((HQ7.out.with_ ((PP.ok _ _ _ _ _ _ _ _ _ _ _ _ _ _ _ _ _ _ _).and (StO.ok _ _ _ _ _ _ _)) hs8 hb8 hg8).reop)
        clear hy8 hs8 hg8 hb8 HQ7 hkm
        go_wp2_with fail
        go_meet
        case rel => exact ⟨(d.crash o.ks), v, t, c, soL (d.crash o.ks) v c, false, gs1, hs1, rfl, rfl, hid (HSG2.out.opened HZ.out), hid (HQ8.out.less fun x hx => hx.elim)⟩
      · obtain rfl := hn7 hz
        have HQ7 := hid (V6.out.go (PP.ok _ _ _ _ _ _ _ _ _ _ _ _ _ _ _ _ _ _ _) hb7)
        have HZ := hid hz
        have z1 : (soE (d.crash o.ks) v c == 0) = false := beq_eq_false_iff_ne.2 hz
        have z2 : decide (soE (d.crash o.ks) v c = 0) = false := decide_eq_false hz
        have z3 : (soE (d.crash o.ks) v c != 0) = true := bne_iff_ne.2 hz
        clear hz hn7 hy7 hb7 V6
        as_aux_lemma =>
        go_wp2_with fail
        have hQ8 := HQ7.out
        refine (rsopen_on ((pf_b gd _ gv v gc c gs m L dn).comp (rs_t hs ge gw gz L dn)) (fun _ h => (TS.ok _ _ _ _ _ _ _ _ _ _).and (h.and (RStO.ok _ _ _ _ _ _))) HQ7.out (by clear hkm; have := HSG2.out.W; have := hj30.out; omega) (by clear hkm; have := hSG.out.G; have := hj30.out; omega) (by clear hkm; have := hSG.out.V; have := hj30.out; omega) (by clear hkm; have := hSG.out.ver; have := hj30.out; omega) (by clear hkm; have := hSG.out.mark; have := hj30.out; omega) (hSG.out.vb.gtB _ _)).mono ?_
        rintro e w8 ⟨q, rfl, hb8, hn8, -⟩
        obtain rfl := hn8 (by rw [← HSO.out.1]; exact HZ.out)
        rw [← HSO.out.1]
        have HQ8 := hid (HQ7.out.go (PP.ok _ _ _ _ _ _ _ _ _ _ _ _ _ _ _ _ _ _ _) hb8)
        clear hn8 hb8 HQ7 hQ8 hkm
        generalize soE (d.crash o.ks) v c = ZE at *
        go_wp2_with fail
        go_meet
        case rel => exact ⟨(d.crash o.ks), v, t, c, L, dn, gs, hs, rfl, rfl, HSG2, hid (HQ8.out.less fun x hx => hx.elim)⟩
    · as_aux_lemma =>
      obtain ⟨x0, x1, x2, x3, x4, x5, x6, x7, x8⟩ := opB_cells (o := o) HK4.out
      go_wp2_with fail
      clear x0 x1 x2 x3 x4 x5 x6 x7 x8
      refine (p_open HV4.out (by clear hkm; have := hSG.out.ver; have := hj30.out; omega) (by clear hkm; have := hSG.out.mark; have := hj30.out; omega)).mono ?_
      rintro e w7 ⟨p, rfl, hb7, hn7, hy7⟩
      have HSG2 := hid (hSG.out.up)
      have HSO := hid (And.intro (hSG.out.sim.soE d c) (hSG.out.sim.soL d c))
      rcases Classical.em (soE d v c = 0) with hz | hz
      · obtain ⟨gs1, G7, rfl, hs7, hg7⟩ := hy7 hz
        rw [HSG2.out.sz] at hs7
        have HQ7 := hid (HV4.out.with_ (PP.ok _ _ _ _ _ _ _ _ _ _ _ _ _ _ _ _ _ _ _) hs7 hb7 hg7)
        have HZ := hid hz
        rw [hz]
        clear hz hn7 hy7 hs7 hg7 hb7 HV4
        as_aux_lemma =>
        go_wp2_with fail
        refine (p_ropen (StO.ok _ _ _ _ _ _ _) HQ7.out (by clear hkm; have := HSG2.out.W; have := hj30.out; omega) (by clear hkm; have := hSG.out.G; have := hj30.out; omega) (by clear hkm; have := hSG.out.V; have := hj30.out; omega) (by clear hkm; have := hSG.out.ver; have := hj30.out; omega) (by clear hkm; have := hSG.out.mark; have := hj30.out; omega) (hSG.out.vb.gtB _ _)).mono ?_
        rintro e w8 ⟨q, rfl, hb8, -, hy8⟩
        obtain ⟨hs1, G8, rfl, hs8, hg8⟩ := hy8 (HSO.out.1.symm.trans HZ.out)
        rw [HSO.out.1.symm.trans HZ.out]
        rw [← HSO.out.2] at hs8
        have HQ8 := hid ((HQ7.out.with_ ((PP.ok _ _ _ _ _ _ _ _ _ _ _ _ _ _ _ _ _ _ _).and (StO.ok _ _ _ _ _ _ _)) hs8 hb8 hg8).reop)
        clear hy8 hs8 hg8 hb8 HQ7 hkm
        go_wp2_with fail
        go_meet
        case rel => exact ⟨d, v, t, c, soL d v c, false, gs1, hs1, rfl, rfl, hid (HSG2.out.opened HZ.out), hid (HQ8.out.less fun x hx => hx.elim)⟩
      · obtain rfl := hn7 hz
        have HQ7 := hid (HV4.out.go (PP.ok _ _ _ _ _ _ _ _ _ _ _ _ _ _ _ _ _ _ _) hb7)
        have HZ := hid hz
        have z1 : (soE d v c == 0) = false := beq_eq_false_iff_ne.2 hz
        have z2 : decide (soE d v c = 0) = false := decide_eq_false hz
        have z3 : (soE d v c != 0) = true := bne_iff_ne.2 hz
        clear hz hn7 hy7 hb7 HV4
        as_aux_lemma =>
        go_wp2_with fail
        have hQ8 := HQ7.out
        refine (rsopen_on ((pf_b gd _ gv v gc c gs m L dn).comp (rs_t hs ge gw gz L dn)) (fun _ h => (TS.ok _ _ _ _ _ _ _ _ _ _).and (h.and (RStO.ok _ _ _ _ _ _))) HQ7.out (by clear hkm; have := HSG2.out.W; have := hj30.out; omega) (by clear hkm; have := hSG.out.G; have := hj30.out; omega) (by clear hkm; have := hSG.out.V; have := hj30.out; omega) (by clear hkm; have := hSG.out.ver; have := hj30.out; omega) (by clear hkm; have := hSG.out.mark; have := hj30.out; omega) (hSG.out.vb.gtB _ _)).mono ?_
        rintro e w8 ⟨q, rfl, hb8, hn8, -⟩
        obtain rfl := hn8 (by rw [← HSO.out.1]; exact HZ.out)
        rw [← HSO.out.1]
        have HQ8 := hid (HQ7.out.go (PP.ok _ _ _ _ _ _ _ _ _ _ _ _ _ _ _ _ _ _ _) hb8)
        clear hn8 hb8 HQ7 hQ8 hkm
        generalize soE d v c = ZE at *
        go_wp2_with fail
        go_meet
        case rel => exact ⟨d, v, t, c, L, dn, gs, hs, rfl, rfl, HSG2, hid (HQ8.out.less fun x hx => hx.elim)⟩
    · as_aux_lemma =>
      obtain ⟨x0, x1, x2, x3, x4, x5, x6, x7, x8⟩ := opB_cells (o := o) HK4.out
      go_wp2_with fail
      refine (p_over HV4.out o.i o.BA o.Bn o.Bc o.b ((HO.out.b.below HV4.out.below (nl _)).wide (nl _) HV4.out.below.size) (by clear hkm; have := hSG.out.W; have := hj30.out; omega)).mono ?_
      rintro e w5 ⟨rfl, hv5, hk5⟩
      have V5 := hid hv5
      have K5 : Hid (Blk w5 bo 56 #[.int .i64 (o).kind, .int .i64 (o).i, .int .i64 (o).fr, .slice (o).LA (o).Ln (o).Lc, .slice (o).BA (o).Bn (o).Bc, .slice (o).KA (o).Kn (o).Kc, .int .i64 (o).k.t, .int .i64 (o).k.c, .int .i64 (o).k.e]) := hid (HK4.out.keep (hk5.2 bo rfl))
      clear hv5 hk5
      clear HV4 HK4 x0 x1 x2 x3 x4 x5 x6 x7 x8
      obtain ⟨x0, x1, x2, x3, x4, x5, x6, x7, x8⟩ := opB_cells (o := o) K5.out
      have hcv := run_str (P := Tryz.prog) (c := o.Bc) 51 9 5 Tryz.underlying51 Tryz.underlying5 Tryz.underlying9 (HO.out.b.below V5.out.below (nl _))
      go_wp2_with fail
      refine (p_rover V5.out o.i o.b (by clear hkm; have := hSG.out.W; have := hj30.out; omega)).mono ?_
      rintro e w6 ⟨rfl, hv6, hk6⟩
      have V6 := hid hv6
      have K6 : Hid (Blk w6 bo 56 #[.int .i64 (o).kind, .int .i64 (o).i, .int .i64 (o).fr, .slice (o).LA (o).Ln (o).Lc, .slice (o).BA (o).Bn (o).Bc, .slice (o).KA (o).Kn (o).Kc, .int .i64 (o).k.t, .int .i64 (o).k.c, .int .i64 (o).k.e]) := hid (K5.out.keep (hk6.2 bo rfl))
      clear hv6 hk6
      clear V5 K5 x0 x1 x2 x3 x4 x5 x6 x7 x8 hcv hkm
      go_wp2_with fail
      go_meet
      case rel => exact ⟨_, _, _, _, _, _, gs, hs, rfl, rfl, hid (hSG.out.dev (ovS_n _ _ _) (ovS_W _ _ _)), hid (V6.out.less fun x hx => hx.elim)⟩
    · as_aux_lemma =>
      obtain ⟨x0, x1, x2, x3, x4, x5, x6, x7, x8⟩ := opB_cells (o := o) HK4.out
      go_wp2_with fail
      refine (p_dread HV4.out o.fr).mono ?_
      rintro e w5 ⟨A5, n5, k5, rfl, ho5, -, hb5⟩
      have V5 := hid (HV4.out.go (PP.ok _ _ _ _ _ _ _ _ _ _ _ _ _ _ _ _ _ _ _) hb5)
      have K5 := hid (HK4.out.keep (hb5.block bo HK4.out.lt))
      have T5 := hid ((Bts.own ho5).wide (Nat.zero_le _) (nl _))
      clear ho5 hb5 HV4 HK4 x0 x1 x2 x3 x4 x5 x6 x7 x8
      obtain ⟨x0, x1, x2, x3, x4, x5, x6, x7, x8⟩ := opB_cells (o := o) K5.out
      go_wp2_with fail
      refine (p_rdread V5.out o.fr (Nat.le_trans (show d.W.length ≤ 900 by clear hkm; have := hSG.out.W; have := hj30.out; omega) (by decide))).mono ?_
      rintro e w6 ⟨rfl, rfl⟩
      go_wp2_with fail
      refine (p_over V5.out o.i A5 n5 k5 _ T5.out (by clear hkm; have := hSG.out.W; have := hj30.out; omega)).mono ?_
      rintro e w7 ⟨rfl, hv7, hk7⟩
      have V7 := hid hv7
      have K7 : Hid (Blk w7 bo 56 #[.int .i64 (o).kind, .int .i64 (o).i, .int .i64 (o).fr, .slice (o).LA (o).Ln (o).Lc, .slice (o).BA (o).Bn (o).Bc, .slice (o).KA (o).Kn (o).Kc, .int .i64 (o).k.t, .int .i64 (o).k.c, .int .i64 (o).k.e]) := hid (K5.out.keep (hk7.2 bo rfl))
      clear hv7 hk7
      clear V5 K5 T5 x0 x1 x2 x3 x4 x5 x6 x7 x8
      obtain ⟨x0, x1, x2, x3, x4, x5, x6, x7, x8⟩ := opB_cells (o := o) K7.out
      go_wp2_with fail
      refine (p_rover V7.out o.i (rdB d o.fr) (by clear hkm; have := hSG.out.W; have := hj30.out; omega)).mono ?_
      rintro e w8 ⟨rfl, hv8, hk8⟩
      have V8 := hid hv8
      have K8 : Hid (Blk w8 bo 56 #[.int .i64 (o).kind, .int .i64 (o).i, .int .i64 (o).fr, .slice (o).LA (o).Ln (o).Lc, .slice (o).BA (o).Bn (o).Bc, .slice (o).KA (o).Kn (o).Kc, .int .i64 (o).k.t, .int .i64 (o).k.c, .int .i64 (o).k.e]) := hid (K7.out.keep (hk8.2 bo rfl))
      clear hv8 hk8
      clear V7 K7 x0 x1 x2 x3 x4 x5 x6 x7 x8 hkm
      go_wp2_with fail
      go_meet
      case rel => exact ⟨_, _, _, _, _, _, gs, hs, rfl, rfl, hid (hSG.out.dev (ovS_n _ _ _) (ovS_W _ _ _)), hid (V8.out.less fun x hx => hx.elim)⟩
    · as_aux_lemma =>
      obtain ⟨x0, x1, x2, x3, x4, x5, x6, x7, x8⟩ := opB_cells (o := o) HK4.out
      go_wp2_with fail
      refine (p_destroy HV4.out o.k HO.out.kw (Nat.le_trans (show v.L.length ≤ 900 by clear hkm; have := hSG.out.vl; have := hj30.out; omega) (by decide)) (by rw [hSG.out.sim.G]; exact Nat.le_trans hSG.out.G (Nat.le_trans hj30.out (by decide)))).mono ?_
      rintro e w7 ⟨rfl, hv7, hk7⟩
      have V7 := hid hv7
      have K7 : Hid (Blk w7 bo 56 #[.int .i64 (o).kind, .int .i64 (o).i, .int .i64 (o).fr, .slice (o).LA (o).Ln (o).Lc, .slice (o).BA (o).Bn (o).Bc, .slice (o).KA (o).Kn (o).Kc, .int .i64 (o).k.t, .int .i64 (o).k.c, .int .i64 (o).k.e]) := hid (HK4.out.keep (hk7.2 bo rfl))
      clear hv7 hk7
      clear HV4 HK4 x0 x1 x2 x3 x4 x5 x6 x7 x8
      obtain ⟨A9, c9, B9, d9, hb9, hr9, hB9, hX9, hgo⟩ := p_gone V7.out o.k
      have HGO := hid hgo
      have HR9 := hid hr9
      have HE9 := hid hb9
      have HB9 : Hid (∀ x, B9.map (·.block) = some x → x ≠ gw ∧ x ≠ bo) := hid (fun x hx => ⟨(hB9 x hx).1, fun e => (hB9 x hx).2 e⟩)
      have HVE : Hid (bo ≠ gw) := hid (hX9 bo rfl)
      have HVW : Hid (bo < w7.heap.size) := hid K7.out.lt
      have HEW : Hid (gw < w7.heap.size) := hid HE9.out.lt
      have HTG : Hid (t.G.length ≤ 1000) := hid (Nat.le_trans hSG.out.G (Nat.le_trans hj30.out (by decide)))
      have HSG2 := hid (hSG.out.gone o.k)
      have yd : w7.cell? ⟨gw, 1, none⟩ = some (.slice B9 t.G.length d9) := (hb9.cell 1).trans rfl
      clear hb9 hr9 hB9 hX9 hgo V7
      go_wp2_with fail
      generalize hNN : t.G.length = NG at *
      have HNG := hid hNN
      clear hNN
      refine wp_region_held_drew (S := fun wx => wx.heap[bo]? = w7.heap[bo]?) (by kernel_rfl) rfl (fun HS => ?_)
      refine qT 0 ?vk0 ?yk0 HS ?rk0
      case yk0 => refine qI fun wS hSw => ?_; go_simp; try with_reducible rfl
      try simp only [Act.put, zA]
      refine qT 1 ?vk1 ?yk1 HS ?rk1
      case yk1 => refine qI fun wS hSw => ?_; go_simp; try with_reducible rfl
      try simp only [Act.put, zA]
      refine qT 2 ?vk2 ?yk2 HS ?rk2
      case yk2 => refine qI fun wS hSw => ?_; go_simp; try with_reducible rfl
      try simp only [Act.put, zA]
      refine qT 3 ?vk3 ?yk3 HS ?rk3
      case yk3 => refine qI fun wS hSw => ?_; go_simp; try with_reducible rfl
      try simp only [Act.put, zA]
      refine qT 5 ?vk5 ?yk5 HS ?rk5
      case yk5 => refine qI fun wS hSw => ?_; go_simp; try with_reducible rfl
      try simp only [Act.put, zA]
      refine qT 6 ?vk6 ?yk6 HS ?rk6
      case yk6 =>
       refine qI fun wS hSw => ?_
       have hKS := K7.out.keep hSw
       obtain ⟨c0, c1, c2, c3, c4, c5, c6, c7, c8⟩ := opB_cells (o := o) hKS
       go_simp
       try with_reducible rfl
      try simp only [Act.put, zA]
      refine wpAnyH_ready (rs := [4, 7]) (by kernel_rfl) (by simp) ?_
      refine (AllReadyH.cons (o := ?ok4) ?hok4 (fun K hK => ?stepk4) (AllReadyH.cons (o := ?ok7) ?hok7 (fun K hK => ?stepk7) AllReadyH.nil))
      case hok4 => simp only [zD, zE, zF]; exact rfl
      case hok7 => simp only [zD, zE, zF]; exact rfl
      case stepk4 =>
       rw [if_pos (by rfl)]
       refine wp_load_slice 38 (.tmp 210) rfl 54 Tryz.underlying38 gw 1 rfl _ ((World.cell?_of_block rfl).trans yd) ?_
       refine hK.out _ _ rfl (fun HS => ?_)
       clear hK K
       try simp only [Act.put, zA]
       refine qR 7 fun K hK => ?_
       rw [if_pos (by rfl)]
       obtain ⟨ie, hie, hz0, hz1, hz2⟩ := info_parts Tryz.infoK
       refine wp_buildSlice 38 54 1 _ rfl #[.int .i64 o.k.t, .int .i64 o.k.c, .int .i64 o.k.e] ie _ Tryz.underlying38 hie hz0 (by rw [hz1]; decide) (by rw [hz1]; decide) (by rw [hz1]; simp only [List.map_toArray, List.map_cons, List.map_nil]; exact filled_key o.k) ?_
       clear hie hz0 hz1 hz2
       have HB8 : Hid (Below w7.heap.size w7 (w7.drew.alloc (.cells #[.int .i64 o.k.t, .int .i64 o.k.c, .int .i64 o.k.e] 54))) := hid ((Below.refl _ _).drew.alloc (nl _) _)
       have HQ8 := hid (blk_range (Blk.new w7.drew 54 #[.int .i64 o.k.t, .int .i64 o.k.c, .int .i64 o.k.e]))
       generalize hq8 : w7.drew.heap.size = q8 at *
       generalize hw8 : w7.drew.alloc (.cells #[.int .i64 o.k.t, .int .i64 o.k.c, .int .i64 o.k.e] 54) = w8 at *
       clear hw8 hq8
       refine hK.out _ _ (HB8.out.block bo HVW.out) (fun HS => ?_)
       clear hK K
       try simp only [Act.put, zA]
       refine qR 8 fun K hK => ?_
       rw [if_pos (by rfl)]
       obtain ⟨B5, d5, w5, hrun5, ho5, -, hg5, hl5⟩ := run_append_L (P := Tryz.prog) w8 38 38 54 _ 3 24 Tryz.underlying38 Tryz.infoK rfl (by decide) 0 B9 NG d9 (kcs t.G) (own_keep (by have := HR9.out; unfold KRow at this; rw [HNG.out] at this; exact this) fun d hd => HB8.out.block d (own_lt (by have := HR9.out; unfold KRow at this; rw [HNG.out] at this; exact this) d hd)) (some ⟨q8, 0, none⟩) 1 1 o.k.cells rfl (fun _ => ⟨q8, 0, rfl, HQ8.out⟩) (ky_cell _) (by have := HTG.out; omega) (by have := HTG.out; unfold maxLen; omega) (Nat.zero_le _)
       have ho5' : KRow w5 B5 d5 (t.G ++ [o.k]) := by unfold KRow; rw [List.length_append, kcs_app, kcs_one, HNG.out]; exact ho5
       obtain ⟨t5, k5⟩ := HGO.out w8 w5 B5 d5 HB8.out hg5 ho5' hl5
       rw [List.length_append, HNG.out] at t5 k5
       have T5 := hid t5
       have K5 : Hid (Blk (w5.setCell ⟨gw, 1, none⟩ (.slice B5 (NG + 1) d5)) bo 56 #[.int .i64 (o).kind, .int .i64 (o).i, .int .i64 (o).fr, .slice (o).LA (o).Ln (o).Lc, .slice (o).BA (o).Bn (o).Bc, .slice (o).KA (o).Kn (o).Kc, .int .i64 (o).k.t, .int .i64 (o).k.c, .int .i64 (o).k.e]) := hid (K7.out.keep (k5.2 bo rfl))
       refine wp_append_run 38 _ _ rfl _ _ _ rfl rfl hrun5 ?_
       have eg5 : w5.heap[gw]? = w7.heap[gw]? := (hg5.block gw (Nat.lt_of_lt_of_le HEW.out HB8.out.size) (fun e => (HB9.out gw e.symm).1 rfl)).trans (HB8.out.block gw HEW.out)
       have HS5 : Hid (w5.heap[bo]? = w7.heap[bo]?) := hid ((hg5.block bo (Nat.lt_of_lt_of_le HVW.out HB8.out.size) (fun e => (HB9.out bo e.symm).2 rfl)).trans (HB8.out.block bo HVW.out))
       have f5 := (HE9.out.keep eg5).frozen 1
       have u0 := (HE9.out.keep eg5).cell 1
       simp only [zD, zF, zE] at u0
       clear ho5 ho5' hg5 hl5 hrun5 eg5 t5 k5
       refine hK.out _ _ HS5.out (fun HS => ?_)
       clear hK K
       try simp only [Act.put, zA]
       refine qT 9 ?vkb9 ?ykb9 HS ?rkb9
       case ykb9 => refine qI fun wS hSw => ?_; go_simp; try with_reducible rfl
       try simp only [Act.put, zA]
       refine qT 10 ?vkb10 ?ykb10 HS ?rkb10
       case ykb10 => refine qI fun wS hSw => ?_; go_simp; try with_reducible rfl
       try simp only [Act.put, zA]
       refine qR 11 fun K hK => ?_
       go_simp
       refine hK.out _ _ ((Below.heap_setCell w5 ⟨gw, 1, none⟩ _ bo (fun e => HVE.out e)).trans HS5.out) (fun HS => ?_)
       clear hK K
       try simp only [Act.put]
       refine qD ?_
       clear HS yd u0 f5 hkm
       go_wp2_with fail
       go_meet
       case rel => exact ⟨_, _, _, _, _, _, gs, hs, rfl, rfl, hid (HSG2.out), hid (T5.out.less fun x hx => hx.elim)⟩
      case stepk7 =>
       rw [if_pos (by rfl)]
       obtain ⟨ie, hie, hz0, hz1, hz2⟩ := info_parts Tryz.infoK
       refine wp_buildSlice 38 54 1 _ rfl #[.int .i64 o.k.t, .int .i64 o.k.c, .int .i64 o.k.e] ie _ Tryz.underlying38 hie hz0 (by rw [hz1]; decide) (by rw [hz1]; decide) (by rw [hz1]; simp only [List.map_toArray, List.map_cons, List.map_nil]; exact filled_key o.k) ?_
       clear hie hz0 hz1 hz2
       have HB8 : Hid (Below w7.heap.size w7 (w7.drew.alloc (.cells #[.int .i64 o.k.t, .int .i64 o.k.c, .int .i64 o.k.e] 54))) := hid ((Below.refl _ _).drew.alloc (nl _) _)
       have HQ8 := hid (blk_range (Blk.new w7.drew 54 #[.int .i64 o.k.t, .int .i64 o.k.c, .int .i64 o.k.e]))
       generalize hq8 : w7.drew.heap.size = q8 at *
       generalize hw8 : w7.drew.alloc (.cells #[.int .i64 o.k.t, .int .i64 o.k.c, .int .i64 o.k.e] 54) = w8 at *
       clear hw8 hq8
       refine hK.out _ _ (HB8.out.block bo HVW.out) (fun HS => ?_)
       clear hK K
       try simp only [Act.put, zA]
       refine qR 4 fun K hK => ?_
       rw [if_pos (by rfl)]
       refine wp_load_slice 38 (.tmp 210) rfl 54 Tryz.underlying38 gw 1 rfl _ ((World.cell?_of_block (HB8.out.block gw HEW.out)).trans yd) ?_
       refine hK.out _ _ (HB8.out.block bo HVW.out) (fun HS => ?_)
       clear hK K
       try simp only [Act.put, zA]
       refine qR 8 fun K hK => ?_
       rw [if_pos (by rfl)]
       obtain ⟨B5, d5, w5, hrun5, ho5, -, hg5, hl5⟩ := run_append_L (P := Tryz.prog) w8 38 38 54 _ 3 24 Tryz.underlying38 Tryz.infoK rfl (by decide) 0 B9 NG d9 (kcs t.G) (own_keep (by have := HR9.out; unfold KRow at this; rw [HNG.out] at this; exact this) fun d hd => HB8.out.block d (own_lt (by have := HR9.out; unfold KRow at this; rw [HNG.out] at this; exact this) d hd)) (some ⟨q8, 0, none⟩) 1 1 o.k.cells rfl (fun _ => ⟨q8, 0, rfl, HQ8.out⟩) (ky_cell _) (by have := HTG.out; omega) (by have := HTG.out; unfold maxLen; omega) (Nat.zero_le _)
       have ho5' : KRow w5 B5 d5 (t.G ++ [o.k]) := by unfold KRow; rw [List.length_append, kcs_app, kcs_one, HNG.out]; exact ho5
       obtain ⟨t5, k5⟩ := HGO.out w8 w5 B5 d5 HB8.out hg5 ho5' hl5
       rw [List.length_append, HNG.out] at t5 k5
       have T5 := hid t5
       have K5 : Hid (Blk (w5.setCell ⟨gw, 1, none⟩ (.slice B5 (NG + 1) d5)) bo 56 #[.int .i64 (o).kind, .int .i64 (o).i, .int .i64 (o).fr, .slice (o).LA (o).Ln (o).Lc, .slice (o).BA (o).Bn (o).Bc, .slice (o).KA (o).Kn (o).Kc, .int .i64 (o).k.t, .int .i64 (o).k.c, .int .i64 (o).k.e]) := hid (K7.out.keep (k5.2 bo rfl))
       refine wp_append_run 38 _ _ rfl _ _ _ rfl rfl hrun5 ?_
       have eg5 : w5.heap[gw]? = w7.heap[gw]? := (hg5.block gw (Nat.lt_of_lt_of_le HEW.out HB8.out.size) (fun e => (HB9.out gw e.symm).1 rfl)).trans (HB8.out.block gw HEW.out)
       have HS5 : Hid (w5.heap[bo]? = w7.heap[bo]?) := hid ((hg5.block bo (Nat.lt_of_lt_of_le HVW.out HB8.out.size) (fun e => (HB9.out bo e.symm).2 rfl)).trans (HB8.out.block bo HVW.out))
       have f5 := (HE9.out.keep eg5).frozen 1
       have u0 := (HE9.out.keep eg5).cell 1
       simp only [zD, zF, zE] at u0
       clear ho5 ho5' hg5 hl5 hrun5 eg5 t5 k5
       refine hK.out _ _ HS5.out (fun HS => ?_)
       clear hK K
       try simp only [Act.put, zA]
       refine qT 9 ?vkd9 ?ykd9 HS ?rkd9
       case ykd9 => refine qI fun wS hSw => ?_; go_simp; try with_reducible rfl
       try simp only [Act.put, zA]
       refine qT 10 ?vkd10 ?ykd10 HS ?rkd10
       case ykd10 => refine qI fun wS hSw => ?_; go_simp; try with_reducible rfl
       try simp only [Act.put, zA]
       refine qR 11 fun K hK => ?_
       go_simp
       refine hK.out _ _ ((Below.heap_setCell w5 ⟨gw, 1, none⟩ _ bo (fun e => HVE.out e)).trans HS5.out) (fun HS => ?_)
       clear hK K
       try simp only [Act.put]
       refine qD ?_
       clear HS yd u0 f5 hkm
       go_wp2_with fail
       go_meet
       case rel => exact ⟨_, _, _, _, _, _, gs, hs, rfl, rfl, hid (HSG2.out), hid (T5.out.less fun x hx => hx.elim)⟩
   case rest =>
   obtain ⟨d2, v2, t2, cc2, L2, dn2, gs2, hs2, rfl, rfl, hSG2, hV2⟩ := hcut
   clear HV4 HK4 hkm HKD hSG HO HSM HLL
   as_aux_lemma =>
   obtain ⟨B3, k3, hra⟩ := p_rat hV2.out
   obtain ⟨FL, hFL⟩ : ∃ q, (frs m L2).length = q := ⟨_, rfl⟩
   obtain ⟨M, hMM⟩ : ∃ q, cc2.ver = q := ⟨_, rfl⟩
   have HFL := hid hFL
   have HMM := hid hMM
   have HLL2 : Hid (L2.length ≤ 1000) := hid hSG2.out.rg.2.2
   have hn1 : ((FL : Int) != (FL : Int)) = false := by simp
   have hn2 : ((M : Int) != (M : Int)) = false := by simp
   have hn3 : decide ((FL : Int) = (FL : Int)) = true := by simp
   have hn4 : decide ((M : Int) = (M : Int)) = true := by simp
   have HRA := hid hra
   clear hra hFL hMM
   go_wp2_with fail
   have V3 := hid (hV2.out.go (PP.ok _ _ _ _ _ _ _ _ _ _ _ _ _ _ _ _ _ _ _) (wr' := wc.drew) ((Below.refl _ _).drew))
   have R3 : Hid (RSoB wc.drew hs2 ge gw gz L2 dn2 B3 k3) := hid (HRA.out.bel ((Below.refl _ _).drew))
   clear HRA hV2
   refine wp_region_held_drew (S := fun wx => RSoB wx hs2 ge gw gz L2 dn2 B3 k3 ∧ wx.cell? ⟨gz, 0, none⟩ = some (.int .i64 (M : Int))) (by kernel_rfl) ⟨R3.out, by rw [← HMM.out]; exact p_rver V3.out⟩ (fun HS => ?_)
   generalize wc.drew = w3 at *
   refine qT 0 ?vr0 ?yr0 HS ?rr0
   case yr0 => refine qI fun wS hSw => ?_; go_simp; try with_reducible rfl
   try simp only [Act.put, zA]
   refine qT 2 ?vr2 ?yr2 HS ?rr2
   case yr2 => refine qI fun wS hSw => ?_; go_simp; try with_reducible rfl
   try simp only [Act.put, zA]
   refine qT 3 ?vr3 ?yr3 HS ?rr3
   case yr3 => refine qI fun wS hSw => ?_; go_simp; try with_reducible rfl
   try simp only [Act.put, zA]
   refine qT 4 ?vr4 ?yr4 HS ?rr4
   case yr4 => refine qI fun wS hSw => ?_; go_simp; try with_reducible rfl
   try simp only [Act.put, zA]
   refine qT 5 ?vr5 ?yr5 HS ?rr5
   case yr5 =>
    refine qI fun wS hSw => ?_
    obtain ⟨y0, y1, y2, y3, y4⟩ := hSw.1.cells
    go_simp
    try with_reducible rfl
   try simp only [Act.put, zA]
   refine qR 1 fun K hK => ?_
   go_simp
   refine (p_list V3.out (rise_of hSG2.out.rg) (Nat.le_trans HLL2.out (by decide)) hSG2.out.nm).mono ?_
   rintro e w4 ⟨A4, k4, rfl, hr4, hb4⟩
   have O4 := hid hr4
   clear hr4
   have V4 := hid (V3.out.go (PP.ok _ _ _ _ _ _ _ _ _ _ _ _ _ _ _ _ _ _ _) hb4)
   have R4 := hid (R3.out.bel hb4)
   clear hb4 V3 R3
   refine hK.out _ _ ⟨R4.out, by rw [← HMM.out]; exact p_rver V4.out⟩ (fun HS => ?_)
   clear hK K
   try simp only [Act.put, zA]
   refine qR 6 fun K hK => ?_
   go_simp
   refine (ssame_c O4.out R4.out.row (Nat.le_trans HLL2.out (by decide))).mono ?_
   rintro e w5 ⟨rfl, hb5⟩
   rw [show decide (L2 = L2) = true from decide_eq_true rfl]
   have V5 := hid (V4.out.go (PP.ok _ _ _ _ _ _ _ _ _ _ _ _ _ _ _ _ _ _ _) hb5)
   have R5 := hid (R4.out.bel hb5)
   clear hb5 V4 R4
   refine hK.out _ _ ⟨R5.out, by rw [← HMM.out]; exact p_rver V5.out⟩ (fun HS => ?_)
   clear hK K
   try simp only [Act.put, zA]
   refine qT 7 ?vr7 ?yr7 HS ?rr7
   case yr7 => refine qI fun wS hSw => ?_; go_simp; try with_reducible rfl
   try simp only [Act.put, zA]
   refine qT 8 ?vr8 ?yr8 HS ?rr8
   case yr8 => refine qI fun wS hSw => ?_; go_simp; try with_reducible rfl
   try simp only [Act.put, zA]
   refine qT 9 ?vr9 ?yr9 HS ?rr9
   case yr9 => refine qI fun wS hSw => ?_; go_simp; try with_reducible rfl
   try simp only [Act.put, zA]
   refine qT 11 ?vr11 ?yr11 HS ?rr11
   case yr11 => refine qI fun wS hSw => ?_; go_simp; try with_reducible rfl
   try simp only [Act.put, zA]
   refine qR 10 fun K hK => ?_
   go_simp
   refine (p_free V5.out HM2.out).mono ?_
   rintro e w6 ⟨rfl, rfl⟩
   rw [HFL.out]
   refine hK.out _ _ ⟨R5.out, by rw [← HMM.out]; exact p_rver V5.out⟩ (fun HS => ?_)
   clear hK K
   try simp only [Act.put, zA]
   refine qR 12 fun K hK => ?_
   go_simp
   have hrf := p_rfree V5.out (by rw [hSG2.out.sz]; exact HM2.out) (Nat.le_trans HLL2.out (by decide))
   rw [hSG2.out.sz, HFL.out] at hrf
   refine hrf.mono ?_
   rintro e w6 ⟨A6, k6, rfl, -, hb6⟩
   clear hrf
   have V6 := hid (V5.out.go (PP.ok _ _ _ _ _ _ _ _ _ _ _ _ _ _ _ _ _ _ _) hb6)
   have R6 := hid (R5.out.bel hb6)
   clear hb6 V5 R5
   refine hK.out _ _ ⟨R6.out, by rw [← HMM.out]; exact p_rver V6.out⟩ (fun HS => ?_)
   clear hK K
   try simp only [Act.put, zA]
   refine qT 13 ?vr13 ?yr13 HS ?rr13
   case yr13 => refine qI fun wS hSw => ?_; go_simp; try with_reducible rfl
   try simp only [Act.put, zA]
   refine qT 14 ?vr14 ?yr14 HS ?rr14
   case yr14 => refine qI fun wS hSw => ?_; go_simp; try with_reducible rfl
   try simp only [Act.put, zA]
   refine qT 15 ?vr15 ?yr15 HS ?rr15
   case yr15 => refine qI fun wS hSw => ?_; go_simp; try with_reducible rfl
   try simp only [Act.put, zA]
   refine qT 16 ?vr16 ?yr16 HS ?rr16
   case yr16 => refine qI fun wS hSw => ?_; go_simp; try with_reducible rfl
   try simp only [Act.put, zA]
   refine qT 17 ?vr17 ?yr17 HS ?rr17
   case yr17 => refine qI fun wS hSw => ?_; go_simp; try with_reducible rfl
   try simp only [Act.put, zA]
   refine qT 19 ?vr19 ?yr19 HS ?rr19
   case yr19 => refine qI fun wS hSw => ?_; go_simp; try with_reducible rfl
   try simp only [Act.put, zA]
   refine qT 20 ?vr20 ?yr20 HS ?rr20
   case yr20 => refine qI fun wS hSw => ?_; go_simp; try with_reducible rfl
   try simp only [Act.put, zA]
   refine qT 21 ?vr21 ?yr21 HS ?rr21
   case yr21 => refine qI fun wS hSw => ?_; go_simp; try with_reducible rfl
   try simp only [Act.put, zA]
   refine qT 22 ?vr22 ?yr22 HS ?rr22
   case yr22 =>
    refine qI fun wS hSw => ?_
    have y5 := hSw.2
    go_simp
    try with_reducible rfl
   try simp only [Act.put, zA]
   refine qR 18 fun K hK => ?_
   go_simp
   refine (p_ver V6.out).mono ?_
   rintro e wa ⟨rfl, rfl⟩
   rw [HMM.out]
   refine hK.out _ _ ⟨R6.out, by rw [← HMM.out]; exact p_rver V6.out⟩ (fun HS => ?_)
   clear hK K
   try simp only [Act.put, zA]
   refine qT 23 ?vr23 ?yr23 HS ?rr23
   case yr23 => refine qI fun wS hSw => ?_; go_simp; try with_reducible rfl
   try simp only [Act.put, zA]
   refine qT 24 ?vr24 ?yr24 HS ?rr24
   case yr24 => refine qI fun wS hSw => ?_; go_simp; try with_reducible rfl
   try simp only [Act.put, zA]
   refine qD ?_
   clear HS hn1 hn2 hn3 hn4
   have hjc : ((j + 1 : Nat) : Int) ≤ (c0 : Int) := by have := HCAP.out; have := HJN.out; omega
   have hj0 : (0 : Int) ≤ ((j + 1 : Nat) : Int) := Int.natCast_nonneg _
   go_wp2_with fail
   try rw [wj]
   go_wp2_with fail
   refine (names_c w6 w.heap.size _ (j + 1) c0 (HOPS.out.at_ V6.out.below HJN.out) V6.out.below.size (Nat.le_trans HJN.out HN.out)).mono ?_
   rintro e w8 ⟨A8, m8, c8, nl, rfl, hr8, hm8, hb8⟩
   have V8 := hid (V6.out.go (PP.ok _ _ _ _ _ _ _ _ _ _ _ _ _ _ _ _ _ _ _) hb8)
   have R8 := hid hr8
   have HM8 := hid hm8
   clear hr8 hm8 hb8 V6 R6 hjc hj0
   generalize w6.heap.size = bs8 at *
   go_wp2_with fail
   go_loopg [249] m8 (fun kk iv wq => ∃ i : Nat, iv = .int .i64 (i : Int) ∧ Hid (kk = m8 - i) ∧ Hid (i ≤ m8) ∧ Hid (On w (PP gd gv gc gs2 ge gw gz hs2 m d2 v2 cc2 L2 dn2 d2 t2 cc2 L2 dn2) wq (fun _ => False)) ∧ Hid (SRow wq bs8 A8 m8 c8 nl))
   case atStart => exact ⟨0, rfl, hid rfl, hid (Nat.zero_le _), V8, R8⟩
   case round =>
   obtain ⟨i, rfl, hgk2, hi, hQ, hR⟩ := hrel
   clear V8 R8
   rename World => wq
   rcases Nat.lt_or_ge i m8 with hlt2 | hge2
   · have HIN := hid hlt2
     have hil : i < nl.length := by rw [hR.out.2.1]; exact hlt2
     have i1 : (0 : Int) ≤ (i : Int) := Int.natCast_nonneg i
     have i2 : (i : Int) < (m8 : Int) := Int.ofNat_lt.2 hlt2
     have i3 : decide ((i : Int) < (m8 : Int)) = true := decide_eq_true i2
     have i4 : decide (i < m8) = true := decide_eq_true hlt2
     have wi : wrap64 ((i : Int) + 1) = ((i + 1 : Nat) : Int) := pl_w HM8.out hlt2
     obtain ⟨b2, hA8, hbl2, hc2⟩ := hR.out.elem hil
     have HNM := hid (hR.out.2.2 _ (List.getElem_mem hil))
     generalize nl[i] = nm at *
     have HA2E := hid hA8
     rw [hA8]
     clear hlt2 hil hbl2 hA8
     as_aux_lemma =>
     go_wp2_with fail
     clear hc2
     refine (p_get hQ.out nm HNM.out hSG2.out.pk).mono ?_
     rintro e w9 ⟨A9, m9, k9, rfl, ho9, -, hb9⟩
     have V9 := hid (hQ.out.go (PP.ok _ _ _ _ _ _ _ _ _ _ _ _ _ _ _ _ _ _ _) hb9)
     have R9 := hid (hR.out.bel hb9)
     have O9 := hid ho9
     clear ho9 hb9 hQ hR
     go_wp2_with fail
     refine (p_rget V9.out nm (Nat.le_trans HLL2.out (by decide)) hSG2.out.pk (by have := hSG2.out.W; have := HJ20.out; omega) (by have := hSG2.out.G; have := HJ20.out; omega) (by have := hSG2.out.V; have := HJ20.out; omega)).mono ?_
     rintro e w10 ⟨rfl, hb10⟩
     rw [← hSG2.out.sim.sgE, ← hSG2.out.sim.sgB]
     have V10 := hid (V9.out.go (PP.ok _ _ _ _ _ _ _ _ _ _ _ _ _ _ _ _ _ _ _) hb10)
     have R10 := hid (R9.out.bel hb10)
     have ho10 : w10.ownsRow _ 5 1 (.slice A9 m9 k9) m9 (bs (sgB d2 v2 L2 nm)) := own_keep O9.out fun x hx => hb10.block x (own_lt O9.out x hx)
     have hst := own_str ho10 (c := k9)
     clear ho10 hb10 O9 V9 R9
     generalize sgB d2 v2 L2 nm = GB at *
     generalize sgE d2 v2 L2 nm = GE at *
     have g1 : (GE != GE) = false := by simp
     have g2 : ((str GB).toList == (str GB).toList) = true := by simp
     go_wp2_with fail
     rw [← HA2E.out]
     go_roundg (m8 - (i + 1))
     case measure => exact pl_meas hgk2.out HIN.out
     case rel => exact ⟨i + 1, by first | rfl | rw [wi], hid rfl, hid HIN.out, V10, R10⟩
   · have hin : i = m8 := by have := hi.out; omega
     subst hin
     have i2 : ¬ (i : Int) < (i : Int) := fun e => absurd e (Int.lt_irrefl _)
     clear hge2 hi hgk2
     as_aux_lemma =>
     go_wp2_with fail
     go_roundg (n - (j + 1))
     case measure => exact pl_meas hgk.out HJN.out
     case rel => exact ⟨j + 1, d2, v2, t2, cc2, L2, dn2, gs2, hs2, rfl, rfl, by first | rfl | rw [wj], hid rfl, hid HJN.out, hid (pl_s30 HJ20.out), hSG2, hQ⟩
 · have hjn : j = n := by have := hj.out; omega
   subst hjn
   have j2 : ¬ (j : Int) < (j : Int) := by omega
   clear hge hj hgk
   as_aux_lemma =>
   go_wp2
   go_ret
   exact ⟨rfl, hV.out.below⟩
end Go.Proofs.YtolaojkcofbkhaaGreat
