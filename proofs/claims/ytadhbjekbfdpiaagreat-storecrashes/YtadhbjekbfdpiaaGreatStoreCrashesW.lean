/- The walk of StoreCrashes: it answers true, whatever the input. -/
import Derived.Test.YtadhbjekbfdpiaaGreatStAp
import Derived.Test.YtadhbjekbfdpiaaGreatFrameT
import Derived.Test.YtadhbjekbfdpiaaGreatStFirst
namespace Go.Proofs.YtadhbjekbfdpiaaGreat
open Go.RowKit

theorem range9 {w : World} {b i : Nat} {o : OpT} (h : w.rangeAt b i o.cells) : w.cell? ⟨b, i, none⟩ = some (.int .i64 o.kind) ∧ w.cell? ⟨b, i + 1, none⟩ = some (.int .i64 o.i) ∧ w.cell? ⟨b, i + 2, none⟩ = some (.int .i64 o.fr) ∧ w.cell? ⟨b, i + 3, none⟩ = some (.slice o.LA o.Ln o.Lc) ∧ w.cell? ⟨b, i + 4, none⟩ = some (.slice o.BA o.Bn o.Bc) ∧ w.cell? ⟨b, i + 5, none⟩ = some (.slice o.KA o.Kn o.Kc) ∧ w.cell? ⟨b, i + 6, none⟩ = some (.int .i64 o.k.t) ∧ w.cell? ⟨b, i + 7, none⟩ = some (.int .i64 o.k.c) ∧ w.cell? ⟨b, i + 8, none⟩ = some (.int .i64 o.k.e) :=
  ⟨h 0 _ rfl, h 1 _ rfl, h 2 _ rfl, h 3 _ rfl, h 4 _ rfl, h 5 _ rfl, h 6 _ rfl, h 7 _ rfl, h 8 _ rfl⟩
theorem opB_cells {w : World} {b : Nat} {t : TypeId} {o : OpT} (h : Blk w b t #[.int .i64 (o).kind, .int .i64 (o).i, .int .i64 (o).fr, .slice (o).LA (o).Ln (o).Lc, .slice (o).BA (o).Bn (o).Bc, .slice (o).KA (o).Kn (o).Kc, .int .i64 (o).k.t, .int .i64 (o).k.c, .int .i64 (o).k.e]) : w.cell? ⟨b, 0, none⟩ = some (.int .i64 o.kind) ∧ w.cell? ⟨b, 1, none⟩ = some (.int .i64 o.i) ∧ w.cell? ⟨b, 2, none⟩ = some (.int .i64 o.fr) ∧ w.cell? ⟨b, 3, none⟩ = some (.slice o.LA o.Ln o.Lc) ∧ w.cell? ⟨b, 4, none⟩ = some (.slice o.BA o.Bn o.Bc) ∧ w.cell? ⟨b, 5, none⟩ = some (.slice o.KA o.Kn o.Kc) ∧ w.cell? ⟨b, 6, none⟩ = some (.int .i64 o.k.t) ∧ w.cell? ⟨b, 7, none⟩ = some (.int .i64 o.k.c) ∧ w.cell? ⟨b, 8, none⟩ = some (.int .i64 o.k.e) :=
  ⟨(h.cell 0).trans rfl, (h.cell 1).trans rfl, (h.cell 2).trans rfl, (h.cell 3).trans rfl, (h.cell 4).trans rfl, (h.cell 5).trans rfl, (h.cell 6).trans rfl, (h.cell 7).trans rfl, (h.cell 8).trans rfl⟩
theorem HRow.chOn {U : Nat → Prop} {w : World} {base n c : Nat} {A : Option Addr} {l : List Hc} (h : HRow w base A n c l) (hn : l.length = n) (hU : ∀ b, A.map (·.block) = some b → U b) (hx : ∀ x ∈ l, HcOk U w x) : ChOn U w A n l :=
  ⟨hn, fun j hj => by
    obtain ⟨b, hA, hlt, hr⟩ := h.elem hn hj
    exact ⟨b, 0, hA, hU b (by rw [hA]; rfl), hlt, by rw [Nat.zero_add]; exact hr, hx _ (List.getElem_mem hj)⟩⟩
theorem HcOk.wide {U U' : Nat → Prop} {w : World} {x : Hc} (h : HcOk U w x) (hU : ∀ b, U b → U' b) : HcOk U' w x := ⟨h.b, fun a q hq => hU q (h.u a q hq), h.k, h.nm, h.n⟩
theorem hrow_keep {w w' : World} {base n c : Nat} {A : Option Addr} {l : List Hc} (h : HRow w base A n c l) (hk : Stay (fun b => A.map (·.block) = some b) w w') : HRow w' base A n c l := own_keep h fun b hb => hk.2 b hb
set_option maxRecDepth 100000 in
set_option maxHeartbeats 16000000 in
theorem walkStoreCrashes (A : Option Addr) (n c0 : Nat) (KA : Option Addr) (kn kc : Nat) (ks : List Bool) (w : World) (hops : OpsT w w.heap.size A n ∧ n ≤ 9223372036854775807) (hk : Lst w 0 w.heap.size KA kn (ks.map Value.bool)) :
    Calls Tryz.prog 6 #[.slice A n c0, .slice KA kn kc] w fun e w' => e = .returned (.bool true) ∧ Below w.heap.size w w' := by
  have HOPS := hid hops.1
  have HN := hid hops.2
  have HK := hid hk
  clear hops hk
  go_enter Tryz.func6, Tryz.ntmps6
  go_wp2_with fail
  refine (stfirst_c w).mono ?_
  rintro e w1 ⟨rfl, hb1⟩
  have HB1 := hid hb1
  clear hb1
  by_cases hkn : 100 < kn
  · have e1 : decide ((100 : Int) < (kn : Int)) = true := by simp; omega
    have e2 : decide (100 < kn) = true := by simpa using hkn
    clear hkn
    go_wp2
    go_ret
    exact ⟨rfl, HB1.out⟩
  have e1 : decide ((100 : Int) < (kn : Int)) = false := by simp; omega
  have e2 : decide (100 < kn) = false := by simp; omega
  clear hkn
  go_wp2_with fail
  clear e1 e2
  refine (dnew_on w w1 HB1.out 60 (by omega) (by omega)).mono ?_
  rintro e w2 ⟨gd, rfl, hv2, -⟩
  have HV2 := hid hv2
  clear hv2 HB1
  go_wp2_with fail
  refine (vnew_on HV2.out).mono ?_
  rintro e w3 ⟨gv, rfl, hv3, -⟩
  have HV3 := hid (tc_new hv3).1
  clear hv3 HV2
  go_wp2_with fail
  generalize w3.heap.size = gc at *
  generalize w3.alloc (.cells #[.int .i64 0, .int .i64 0] 33) = w4 at *
  refine (sopen_on Foc.self (fun _ h => h) HV3.out (by decide) (by decide)).mono ?_
  rintro e w5 ⟨pp, rfl, hb5, -, ho5⟩
  have hz : soE (St.new 60) Va.new ⟨0, 0⟩ = 0 := by decide +kernel
  have hzL : soL (St.new 60) Va.new ⟨0, 0⟩ = [] := by decide +kernel
  obtain ⟨gs0, G5, rfl, hs5, hg5⟩ := ho5 hz
  rw [hz]
  rw [hzL] at hs5
  have HV5 : Hid (On w (TS gd (St.new 60) gv Va.new gc ⟨0, 0⟩ gs0 60 [] false) w5 (fun b => (none : Option Addr).map (·.block) = some b)) := hid ((HV3.out.with_ (TC.ok _ _ _ _ _ _) hs5 hb5 hg5).less (fun x hx => by cases hx))
  clear HV3 hs5 hg5 hb5 ho5 hz hzL
  go_wp2_with fail
  go_loopg [9, 11, 41] n (fun kk sv hv iv w2 => ∃ (j : Nat) (d : St) (v : Va) (c : Ce) (gs : Nat) (L : List Bb) (A1 : Option Addr) (n1 c1 : Nat) (hl : List Hc), sv = .pointer (some ⟨gs, 0, none⟩) ∧ hv = .slice A1 n1 c1 ∧ iv = .int .i64 (j : Int) ∧ Hid (kk = n - j) ∧ Hid (j ≤ n) ∧ Hid (SI d v c L false) ∧ Hid (Hv v L (hl.map Hc.ch)) ∧ Hid (hl.length = n1) ∧
    Hid (d.n = 60 ∧ d.W.length = 0 ∧ v.L.length ≤ 30 * j ∧ c.ver ≤ j ∧ c.mark ≤ 600000 ∧ n1 ≤ 30 * j ∧ j ≤ 20) ∧ Hid (On w (TS gd d gv v gc c gs 60 L false) w2 (fun b => A1.map (·.block) = some b)) ∧ Hid (HRow w2 w.heap.size A1 n1 c1 hl) ∧ Hid (∀ x ∈ hl, HcOk (fun b => b < w.heap.size) w x))
  case atStart => exact ⟨0, _, _, _, gs0, [], none, 0, 0, [], rfl, rfl, rfl, hid (by omega), hid (Nat.zero_le _), hid (SI.init (by decide) (by decide)), hid (Hv.init _), hid rfl, hid (by decide), HV5, hid (own_nilrow _ _ _ _), hid (fun x hx => by cases hx)⟩
  case round =>
  obtain ⟨j, d, v, c, gs, L, A1, n1, c1, hl, rfl, rfl, rfl, hgk, hj, hSI, hHv, hln, hbd, hV, hRW, hHO⟩ := hrel
  clear HV5
  rename World => w2
  rcases Nat.lt_or_ge j n with hlt | hge
  · have HJN := hid hlt
    have j1 : (0 : Int) ≤ (j : Int) := by omega
    have j2 : (j : Int) < (n : Int) := by omega
    have j3 : decide ((j : Int) < (n : Int)) = true := by simpa using hlt
    have j4 : decide (j < n) = true := by simpa using hlt
    have wj : wrap64 ((j : Int) + 1) = ((j + 1 : Nat) : Int) := by have := hbd.out; unfold wrap64; omega
    obtain ⟨b, off, o, rfl, hbl, hR0, hO0⟩ := HOPS.out j hlt
    have HO := hid hO0
    have hr0 := rangeAt_keep hR0 (hV.out.below.block b hbl)
    obtain ⟨c0', c1', c2, c3, c4, c5, c6, c7, c8⟩ := range9 hr0
    have hb3 : Below w2.heap.size w2 (w2.alloc (.cells #[.int .i64 (o).kind, .int .i64 (o).i, .int .i64 (o).fr, .slice (o).LA (o).Ln (o).Lc, .slice (o).BA (o).Bn (o).Bc, .slice (o).KA (o).Kn (o).Kc, .int .i64 (o).k.t, .int .i64 (o).k.c, .int .i64 (o).k.e] 56)) := (Below.refl _ _).alloc (Nat.le_refl _) _
    have HKB := hid (Blk.new w2 56 #[.int .i64 (o).kind, .int .i64 (o).i, .int .i64 (o).fr, .slice (o).LA (o).Ln (o).Lc, .slice (o).BA (o).Bn (o).Bc, .slice (o).KA (o).Kn (o).Kc, .int .i64 (o).k.t, .int .i64 (o).k.c, .int .i64 (o).k.e])
    obtain ⟨x0, x1, x2, x3, x4, x5, x6, x7, x8⟩ := opB_cells (o := o) HKB.out
    have HV3 := hid (hV.out.add (TS.ok _ _ _ _ _ _ _ _ _ _) hb3 (Y := fun x => x = w2.heap.size) (fun x hx => by subst hx; simp))
    have HRW3 : Hid (HRow (w2.alloc (.cells #[.int .i64 (o).kind, .int .i64 (o).i, .int .i64 (o).fr, .slice (o).LA (o).Ln (o).Lc, .slice (o).BA (o).Bn (o).Bc, .slice (o).KA (o).Kn (o).Kc, .int .i64 (o).k.t, .int .i64 (o).k.c, .int .i64 (o).k.e] 56)) w.heap.size A1 n1 c1 hl) := hid (World.ownsRow.below hRW.out hb3)
    clear hlt hbl hR0 hO0 hr0 hb3 hV hRW
    by_cases h20 : 20 ≤ j
    · have m1 : decide ((20 : Int) ≤ (j : Int)) = true := by simp; omega
      have m2 : decide (20 ≤ j) = true := by simpa using h20
      clear h20
      go_wp2
      go_ret
      exact ⟨rfl, HV3.out.below⟩
    have m1 : decide ((20 : Int) ≤ (j : Int)) = false := by simp; omega
    have m2 : decide (20 ≤ j) = false := by simp; omega
    have HJ20 := hid h20
    clear h20
    have hlo := long_c o (w2.alloc (.cells #[.int .i64 (o).kind, .int .i64 (o).i, .int .i64 (o).fr, .slice (o).LA (o).Ln (o).Lc, .slice (o).BA (o).Bn (o).Bc, .slice (o).KA (o).Kn (o).Kc, .int .i64 (o).k.t, .int .i64 (o).k.c, .int .i64 (o).k.e] 56)) w.heap.size (HO.out.below HV3.out.below) HV3.out.below.size
    go_wp2_with fail
    clear m1 m2
    refine hlo.mono ?_
    rintro e w4 ⟨z, rfl, hb4, hz⟩
    have HV4 := hid (HV3.out.go (TS.ok _ _ _ _ _ _ _ _ _ _) hb4)
    have HRW4 : Hid (HRow w4 w.heap.size A1 n1 c1 hl) := hid (World.ownsRow.below HRW3.out hb4)
    have HK4 := hid (HKB.out.keep (hb4.block _ HKB.out.lt))
    clear hlo hb4 HKB HV3 HRW3 x0 x1 x2 x3 x4 x5 x6 x7 x8 c0' c1' c2 c3 c4 c5 c6 c7 c8
    rcases hz with rfl | ⟨hz, hsm⟩
    · go_wp2
      go_ret
      exact ⟨rfl, HV4.out.below⟩
    have m1 : decide ((1000 : Int) ≤ z) = false := by simp; omega
    have m2 : ¬ (1000 : Int) ≤ z := by omega
    have HSM := hid hsm
    obtain ⟨x0, x1, x2, x3, x4, x5, x6, x7, x8⟩ := opB_cells (o := o) HK4.out
    generalize w2.heap.size = bo at *
    clear hz hsm
    go_wp2_with fail
    refine (dlimit_on ((ts_t gs gd gv gc 60 L false).comp (tc_d gv v gc c)) HV4.out _ (by unfold wrap64; omega)).mono ?_
    rintro e w5 ⟨rfl, hv5, hst5⟩
    generalize wrap64 ((IntKind.u64.wrap o.i).tmod 12) = lim at *
    have HV5 : Hid (On w (TS gd (d.bound lim) gv v gc c gs 60 L false) w5 (fun b => A1.map (·.block) = some b ∨ b = bo)) := hid hv5
    have HRW5 := hid (hrow_keep HRW4.out (hst5.less fun x hx => .inl hx))
    have HK5 := hid (HK4.out.keep (hst5.2 bo (.inr rfl)))
    clear hv5 hst5 HV4 HRW4 HK4 x0 x1 x2 x3 x4 x5 x6 x7 x8 m1 m2
    obtain ⟨x0, x1, x2, x3, x4, x5, x6, x7, x8⟩ := opB_cells (o := o) HK5.out
    have HSI5 := hid (hSI.out.bound lim)
    have HLL : Hid (o.l.length = o.Ln) := hid HO.out.l.len
    have HCM := hid (SI.commit (s := ⟨d.bound lim, v, c, L, false⟩) (l := o.l.map Hc.ch) HSI5.out rfl hHv.out (by show v.L.length + _ ≤ _; rw [List.length_map, HLL.out]; have := hbd.out; have := HSM.out.l; omega) (fun x hx => by
      obtain ⟨y, hy, rfl⟩ := List.mem_map.1 hx
      obtain ⟨i, hi, rfl⟩ := List.mem_iff_getElem.1 hy
      exact (HO.out.l.el i hi).choose_spec.choose_spec.2.2.2.2.k))
    have hcm := commit_on (C := fun P => P) (q := o.Lc) Foc.self HV5.out ((HO.out.below HV5.out.below).l.mono fun b hb _ => .inr hb) (by have := HSM.out.l; omega) HSI5.out.rg HSI5.out.wf (fun x hx => by have := HSI5.out.bl x hx; rw [show (d.bound lim).n = 60 from hbd.out.1] at this; exact this) hbd.out.1 (by show d.W.length ≤ _; have := hbd.out; omega) (by have := hbd.out; omega) (by have := hbd.out; omega)
    have HLN : Hid ((o.l.map Hc.ch).length ≤ 20) := hid (by rw [List.length_map, HLL.out]; exact HSM.out.l)
    generalize hcs : cmS ⟨d.bound lim, v, c, L, false⟩ (o.l.map Hc.ch) = S at *
    clear hcs
    obtain ⟨E, d', v', c', L', dn'⟩ := S
    have HCO := hid hcm
    clear hcm
    go_wp2_with fail
    refine HCO.out.mono ?_
    rintro e w6 ⟨rfl, hv6, hst6⟩
    have HV6 : Hid (On w (TS gd d' gv v' gc c' gs 60 L' dn') w6 (fun b => A1.map (·.block) = some b ∨ b = bo)) := hid hv6
    have HRW6 := hid (hrow_keep HRW5.out (hst6.less fun x hx => .inl hx))
    have HK6 := hid (HK5.out.keep (hst6.2 bo (.inr rfl)))
    clear hv6 hst6 HV5 HRW5 HK5 HCO x0 x1 x2 x3 x4 x5 x6 x7 x8
    obtain ⟨x0, x1, x2, x3, x4, x5, x6, x7, x8⟩ := opB_cells (o := o) HK6.out
    have HSI8 : Hid (SI d' v' c' L' false) := hid HCM.out.1.si
    have HVV : Hid (v'.L.length ≤ v.L.length + 21 ∧ d'.n = 60 ∧ d'.W.length ≤ 21) := hid (by
      obtain ⟨E', h1, h2⟩ := HCM.out.1.V
      have h3 := HCM.out.1.n
      have h4 := HCM.out.1.Wl
      have h5 := HLN.out
      have h6 := hbd.out
      dsimp only at h1 h3 h4
      have h7 : (d.bound lim).W.length = 0 := h6.2.1
      have h8 : (d.bound lim).n = 60 := h6.1
      rw [h1, List.length_append]
      omega)
    by_cases hE : E = 0
    · subst hE
      have HHv0 : Hid (Hv v' L' (applied (hl.map Hc.ch) (o.l.map Hc.ch))) := hid (by have := HCM.out.1.hv; dsimp only at this; rwa [if_pos rfl] at this)
      have HVR : Hid (c'.ver = c.ver + 1) := hid (HCM.out.1.ok rfl).2
      have HAP := hid (applied_c (w := w6) (U := fun b => b < w.heap.size ∨ A1.map (·.block) = some b) (ca := c1) (cb := o.Lc) (HRW6.out.chOn hln.out (fun b hb => .inr hb) (fun x hx => ((hHO.out x hx).keep HV6.out.below.size (fun b hb _ => HV6.out.below.block b hb)).wide fun b hb => .inl hb)) ((HO.out.below HV6.out.below).l.mono fun b hb _ => .inl hb) (by have := hbd.out; omega) (by have := HSM.out.l; omega))
      clear HCM
      go_wp2_with fail
      refine HAP.out.mono ?_
      rintro e w8 ⟨A8, n8, c8, h8, rfl, hr8, hl8, he8, hn8, hm8, hb8⟩
      have HV8 : Hid (On w (TS gd d' gv v' gc c' gs 60 L' dn') w8 (fun b => A8.map (·.block) = some b)) := hid ((HV6.out.add (TS.ok _ _ _ _ _ _ _ _ _ _) hb8 (Y := fun b => A8.map (·.block) = some b) (fun x hx => ⟨own_ge hr8 x hx, own_lt hr8 x hx⟩)).less fun x hx => .inr hx)
      have HRW8 : Hid (HRow w8 w.heap.size A8 n8 c8 h8) := hid (ownsRow_base_a hr8 HV6.out.below.size)
      have HHv8 : Hid (Hv v' L' (h8.map Hc.ch)) := hid (by rw [he8]; exact HHv0.out)
      have HLN8 : Hid (h8.length = n8) := hid hl8
      have HHO8 : Hid (∀ x ∈ h8, HcOk (fun b => b < w.heap.size) w x) := hid (fun x hx => by
        rcases hm8 x hx with h | h
        · exact hHO.out x h
        · obtain ⟨i, hi, rfl⟩ := List.mem_iff_getElem.1 h
          exact (HO.out.l.el i hi).choose_spec.choose_spec.2.2.2.2)
      have HBD8 : Hid (d'.n = 60 ∧ d'.W.length ≤ 30 ∧ v'.L.length ≤ 30 * (j + 1) ∧ c'.ver ≤ j + 1 ∧ c'.mark ≤ 600000 ∧ n8 ≤ 30 * (j + 1)) := hid (by
        have h1 := HVV.out
        have h2 := hbd.out
        have h3 := HVR.out
        have h4 := HSM.out.l
        obtain ⟨h5, h6⟩ := HSI8.out.rt.at_ (by omega)
        have h7 := (List.getElem?_eq_some_iff.1 h6).1
        omega)
      clear hr8 hl8 he8 hn8 hm8 hb8 HAP HHv0 HVR HV6 HRW6 HK6 x0 x1 x2 x3 x4 x5 x6 x7 x8 hSI hHv hln hbd hHO HVV HSI5
      have HSI9 := hid (HSI8.out.crash ks)
      have HQ := hid (HSI9.out.clean (by have := HBD8.out; have := HJ20.out; omega) rfl)
      have HLE : Hid (L'.length = n8) := hid (by rw [HHv8.out.len, List.length_map]; exact HLN8.out)
      go_wp2_with fail
      refine (dcrash_on ((ts_t gs gd gv gc 60 L' dn').comp (tc_d gv v' gc c')) HV8.out KA kn kc ks ((HK.out.below HV8.out.below (Nat.le_refl _)).wide (Nat.le_refl _) HV8.out.below.size) (fun h0 x hx => .inr (by
        obtain ⟨g, off, hA, _, h3, _⟩ := HK.out.2 h0
        rw [hA] at hx
        injection hx with hx
        have hx : g = x := hx
        omega)) (by have := HBD8.out; omega)).mono ?_
      rintro e w9 ⟨rfl, hv9, hst9⟩
      have HV9 : Hid (On w (TC gd (d'.crash ks) gv v' gc c') w9 (fun b => A8.map (·.block) = some b)) := hid (On.drop hv9)
      have HRW9 := hid (hrow_keep HRW8.out hst9)
      clear hv9 hst9 HV8 HRW8
      go_wp2_with fail
      refine (sopen_on (C := fun P => P) (d := d'.crash ks) (v := v') (c := c') Foc.self (fun _ h => h) HV9.out (by have := HBD8.out; have := HJ20.out; omega) (by have := HBD8.out; omega)).mono ?_
      rintro e w10 ⟨pp, rfl, hb10, -, ho10⟩
      obtain ⟨gt, G10, rfl, hs10, hg10⟩ := ho10 HQ.out.1
      rw [HQ.out.1]
      rw [HQ.out.2.1, show (d'.crash ks).n = 60 from HBD8.out.1] at hs10
      have HV10 : Hid (On w (TS gd (d'.crash ks) gv v' gc c' gt 60 L' false) w10 (fun b => A8.map (·.block) = some b)) := hid (HV9.out.with_ (TC.ok _ _ _ _ _ _) hs10 hb10 hg10)
      have HRW10 : Hid (HRow w10 w.heap.size A8 n8 c8 h8) := hid (World.ownsRow.below HRW9.out hb10)
      clear hs10 hb10 hg10 ho10 HV9 HRW9
      go_wp2_with fail
      refine (slist_on (ts_s gd (d'.crash ks) gv v' gc c') HV10.out (rise_of HSI8.out.rg) (by have := HSI8.out.rg.2.2; omega) (fun x hx => by have := (HSI8.out.rg.1 x hx).1.2; unfold maxLen; omega)).mono ?_
      rintro e w11 ⟨A11, k11, rfl, -, hb11⟩
      rw [HLE.out]
      have HV11 := hid (HV10.out.go (TS.ok _ _ _ _ _ _ _ _ _ _) hb11)
      have HRW11 : Hid (HRow w11 w.heap.size A8 n8 c8 h8) := hid (World.ownsRow.below HRW10.out hb11)
      clear hb11 HV10 HRW10
      go_wp2_with fail
      go_loopg [91] n8 (fun kk iv w12 => ∃ i : Nat, iv = .int .i64 (i : Int) ∧ Hid (kk = n8 - i) ∧ Hid (i ≤ n8) ∧ Hid (On w (TS gd (d'.crash ks) gv v' gc c' gt 60 L' false) w12 (fun b => A8.map (·.block) = some b)) ∧ Hid (HRow w12 w.heap.size A8 n8 c8 h8))
      case atStart => exact ⟨0, rfl, hid (by omega), hid (Nat.zero_le _), HV11, HRW11⟩
      case round =>
      obtain ⟨i, rfl, hgk2, hi, hV2, hRW2⟩ := hrel
      clear HV11 HRW11
      rename World => w12
      rcases Nat.lt_or_ge i n8 with hlt2 | hge2
      · have HIN := hid hlt2
        have hil : i < h8.length := by rw [HLN8.out]; exact hlt2
        have i1 : (0 : Int) ≤ (i : Int) := by omega
        have i2 : (i : Int) < (n8 : Int) := by omega
        have i3 : decide ((i : Int) < (n8 : Int)) = true := by simpa using hlt2
        have i4 : decide (i < n8) = true := by simpa using hlt2
        have wi : wrap64 ((i : Int) + 1) = ((i + 1 : Nat) : Int) := by have := HBD8.out; have := HJ20.out; unfold wrap64; omega
        have HYO := hid (HHO8.out _ (List.getElem_mem hil))
        have HYE : Hid (sgE (d'.crash ks) v' L' h8[i].nm = 0 ∧ sgB (d'.crash ks) v' L' h8[i].nm = h8[i].body) := hid (by
          obtain ⟨bb, hb1, hb2, _, hb4⟩ := HHv8.out.2 h8[i].ch (List.mem_map_of_mem (List.getElem_mem hil))
          have := HQ.out.2.2 bb hb1 _ hb4
          rw [show bb.nm = h8[i].nm from hb2] at this
          exact this)
        obtain ⟨b2, hA8, hbl2, hr2⟩ := hRW2.out.elem HLN8.out hil
        generalize h8[i] = y at *
        obtain ⟨c0', c1', c2, c3, c4, c5⟩ := range6 hr2
        have hb13 : Below w12.heap.size w12 (w12.alloc (.cells #[.string (str (y).nm), .int .i64 (y).k.t, .int .i64 (y).k.c, .int .i64 (y).k.e, .slice (y).A (y).n (y).c, .bool (y).dr] 94)) := (Below.refl _ _).alloc (Nat.le_refl _) _
        have HKY := hid (Blk.new w12 94 #[.string (str (y).nm), .int .i64 (y).k.t, .int .i64 (y).k.c, .int .i64 (y).k.e, .slice (y).A (y).n (y).c, .bool (y).dr])
        obtain ⟨y0, y1, y2, y3, y4, y5⟩ := hcB_cells (x := y) HKY.out
        have HV13 := hid (hV2.out.go (TS.ok _ _ _ _ _ _ _ _ _ _) hb13)
        have HRW13 : Hid (HRow (w12.alloc (.cells #[.string (str (y).nm), .int .i64 (y).k.t, .int .i64 (y).k.c, .int .i64 (y).k.e, .slice (y).A (y).n (y).c, .bool (y).dr] 94)) w.heap.size A8 n8 c8 h8) := hid (World.ownsRow.below hRW2.out hb13)
        have HGT := hid (sget_on (C := fun P => P) Foc.self (fun _ h => h) HV13.out y.nm HYO.out.nm (fun x hx => ⟨HSI8.out.wf x hx, (HSI8.out.rg.1 x hx).2.2.1⟩))
        clear hlt2 hil hbl2 hr2 hb13 hV2 hRW2
        rw [hA8]
        have HA8 := hid hA8
        clear hA8
        go_wp2_with fail
        refine HGT.out.mono ?_
        rintro e w14 ⟨A14, m14, k14, rfl, ho14, -, hb14⟩
        rw [HYE.out.1]
        rw [HYE.out.2] at ho14
        have HV14 := hid (HV13.out.go (TS.ok _ _ _ _ _ _ _ _ _ _) hb14)
        have HRW14 : Hid (HRow w14 w.heap.size A8 n8 c8 h8) := hid (World.ownsRow.below HRW13.out hb14)
        have hst1 := own_str ho14 (c := k14)
        have hst2 := run_str (P := Tryz.prog) (c := y.c) 51 9 5 Tryz.underlying51 Tryz.underlying5 Tryz.underlying9 (HYO.out.b.below HV14.out.below (Nat.le_refl _))
        have hk14 := HKY.out.keep (hb14.block _ HKY.out.lt)
        clear y0 y1 y2 y3 y4 y5 c0' c1' c2 c3 c4 c5 HGT
        obtain ⟨y0, y1, y2, y3, y4, y5⟩ := hcB_cells (x := y) hk14
        clear ho14 hb14 hk14 HKY HV13 HRW13
        go_wp2_with fail
        rw [← HA8.out]
        go_roundg (n8 - (i + 1))
        case measure => have := hgk2.out; have := HIN.out; omega
        case rel => exact ⟨i + 1, by first | rfl | rw [wi], hid rfl, hid HIN.out, HV14, HRW14⟩
      · have hin : n8 = i := by have := hi.out; omega
        obtain rfl : n8 = i := hin
        have i2 : ¬ (n8 : Int) < (n8 : Int) := by omega
        clear hge2 hi hgk2
        go_wp2_with fail
        go_roundg (n - (j + 1))
        case measure => have := hgk.out; have := HJN.out; omega
        case rel => exact ⟨j + 1, d'.crash ks, v', c', gt, L', A8, n8, c8, h8, rfl, rfl, by first | rfl | rw [wj], hid rfl, hid HJN.out, HSI9, HHv8, HLN8, hid (by have hq := HBD8.out; have := HJ20.out; exact ⟨hq.1, rfl, by omega, by omega, by omega, by omega, by omega⟩), hV2, hRW2, HHO8⟩
    · have HHv8 : Hid (Hv v' L' (hl.map Hc.ch)) := hid (by have := HCM.out.1.hv; dsimp only at this; rwa [if_neg hE] at this)
      have HCC : Hid (c' = c) := hid (HCM.out.1.er hE).2
      have z1 : (E == 0) = false := beq_eq_false_iff_ne.2 hE
      have z2 : decide (E = 0) = false := decide_eq_false hE
      have HV8 : Hid (On w (TS gd d' gv v' gc c' gs 60 L' dn') w6 (fun b => A1.map (·.block) = some b)) := hid (HV6.out.less fun x hx => .inl hx)
      have HBD8 : Hid (d'.n = 60 ∧ d'.W.length ≤ 30 ∧ v'.L.length ≤ 30 * (j + 1) ∧ c'.ver ≤ j + 1 ∧ c'.mark ≤ 600000 ∧ n1 ≤ 30 * (j + 1)) := hid (by
        have h1 := HVV.out
        have h2 := hbd.out
        rw [HCC.out]
        omega)
      have HRW8 := HRW6
      have HLN8 := hln
      have HHO8 := hHO
      clear hE HCM HCC HV6 HRW6 HK6 x0 x1 x2 x3 x4 x5 x6 x7 x8 hSI hHv hln hbd hHO HVV HSI5
      have HSI9 := hid (HSI8.out.crash ks)
      have HQ := hid (HSI9.out.clean (by have := HBD8.out; have := HJ20.out; omega) rfl)
      have HLE : Hid (L'.length = n1) := hid (by rw [HHv8.out.len, List.length_map]; exact HLN8.out)
      go_wp2_with fail
      refine (dcrash_on ((ts_t gs gd gv gc 60 L' dn').comp (tc_d gv v' gc c')) HV8.out KA kn kc ks ((HK.out.below HV8.out.below (Nat.le_refl _)).wide (Nat.le_refl _) HV8.out.below.size) (fun h0 x hx => .inr (by
        obtain ⟨g, off, hA, _, h3, _⟩ := HK.out.2 h0
        rw [hA] at hx
        injection hx with hx
        have hx : g = x := hx
        omega)) (by have := HBD8.out; omega)).mono ?_
      rintro e w9 ⟨rfl, hv9, hst9⟩
      have HV9 : Hid (On w (TC gd (d'.crash ks) gv v' gc c') w9 (fun b => A1.map (·.block) = some b)) := hid (On.drop hv9)
      have HRW9 := hid (hrow_keep HRW8.out hst9)
      clear hv9 hst9 HV8 HRW8
      go_wp2_with fail
      refine (sopen_on (C := fun P => P) (d := d'.crash ks) (v := v') (c := c') Foc.self (fun _ h => h) HV9.out (by have := HBD8.out; have := HJ20.out; omega) (by have := HBD8.out; omega)).mono ?_
      rintro e w10 ⟨pp, rfl, hb10, -, ho10⟩
      obtain ⟨gt, G10, rfl, hs10, hg10⟩ := ho10 HQ.out.1
      rw [HQ.out.1]
      rw [HQ.out.2.1, show (d'.crash ks).n = 60 from HBD8.out.1] at hs10
      have HV10 : Hid (On w (TS gd (d'.crash ks) gv v' gc c' gt 60 L' false) w10 (fun b => A1.map (·.block) = some b)) := hid (HV9.out.with_ (TC.ok _ _ _ _ _ _) hs10 hb10 hg10)
      have HRW10 : Hid (HRow w10 w.heap.size A1 n1 c1 hl) := hid (World.ownsRow.below HRW9.out hb10)
      clear hs10 hb10 hg10 ho10 HV9 HRW9
      go_wp2_with fail
      refine (slist_on (ts_s gd (d'.crash ks) gv v' gc c') HV10.out (rise_of HSI8.out.rg) (by have := HSI8.out.rg.2.2; omega) (fun x hx => by have := (HSI8.out.rg.1 x hx).1.2; unfold maxLen; omega)).mono ?_
      rintro e w11 ⟨A11, k11, rfl, -, hb11⟩
      rw [HLE.out]
      have HV11 := hid (HV10.out.go (TS.ok _ _ _ _ _ _ _ _ _ _) hb11)
      have HRW11 : Hid (HRow w11 w.heap.size A1 n1 c1 hl) := hid (World.ownsRow.below HRW10.out hb11)
      clear hb11 HV10 HRW10
      go_wp2_with fail
      go_loopg [91] n1 (fun kk iv w12 => ∃ i : Nat, iv = .int .i64 (i : Int) ∧ Hid (kk = n1 - i) ∧ Hid (i ≤ n1) ∧ Hid (On w (TS gd (d'.crash ks) gv v' gc c' gt 60 L' false) w12 (fun b => A1.map (·.block) = some b)) ∧ Hid (HRow w12 w.heap.size A1 n1 c1 hl))
      case atStart => exact ⟨0, rfl, hid (by omega), hid (Nat.zero_le _), HV11, HRW11⟩
      case round =>
      obtain ⟨i, rfl, hgk2, hi, hV2, hRW2⟩ := hrel
      clear HV11 HRW11
      rename World => w12
      rcases Nat.lt_or_ge i n1 with hlt2 | hge2
      · have HIN := hid hlt2
        have hil : i < hl.length := by rw [HLN8.out]; exact hlt2
        have i1 : (0 : Int) ≤ (i : Int) := by omega
        have i2 : (i : Int) < (n1 : Int) := by omega
        have i3 : decide ((i : Int) < (n1 : Int)) = true := by simpa using hlt2
        have i4 : decide (i < n1) = true := by simpa using hlt2
        have wi : wrap64 ((i : Int) + 1) = ((i + 1 : Nat) : Int) := by have := HBD8.out; have := HJ20.out; unfold wrap64; omega
        have HYO := hid (HHO8.out _ (List.getElem_mem hil))
        have HYE : Hid (sgE (d'.crash ks) v' L' hl[i].nm = 0 ∧ sgB (d'.crash ks) v' L' hl[i].nm = hl[i].body) := hid (by
          obtain ⟨bb, hb1, hb2, _, hb4⟩ := HHv8.out.2 hl[i].ch (List.mem_map_of_mem (List.getElem_mem hil))
          have := HQ.out.2.2 bb hb1 _ hb4
          rw [show bb.nm = hl[i].nm from hb2] at this
          exact this)
        obtain ⟨b2, hA8, hbl2, hr2⟩ := hRW2.out.elem HLN8.out hil
        generalize hl[i] = y at *
        obtain ⟨c0', c1', c2, c3, c4, c5⟩ := range6 hr2
        have hb13 : Below w12.heap.size w12 (w12.alloc (.cells #[.string (str (y).nm), .int .i64 (y).k.t, .int .i64 (y).k.c, .int .i64 (y).k.e, .slice (y).A (y).n (y).c, .bool (y).dr] 94)) := (Below.refl _ _).alloc (Nat.le_refl _) _
        have HKY := hid (Blk.new w12 94 #[.string (str (y).nm), .int .i64 (y).k.t, .int .i64 (y).k.c, .int .i64 (y).k.e, .slice (y).A (y).n (y).c, .bool (y).dr])
        obtain ⟨y0, y1, y2, y3, y4, y5⟩ := hcB_cells (x := y) HKY.out
        have HV13 := hid (hV2.out.go (TS.ok _ _ _ _ _ _ _ _ _ _) hb13)
        have HRW13 : Hid (HRow (w12.alloc (.cells #[.string (str (y).nm), .int .i64 (y).k.t, .int .i64 (y).k.c, .int .i64 (y).k.e, .slice (y).A (y).n (y).c, .bool (y).dr] 94)) w.heap.size A1 n1 c1 hl) := hid (World.ownsRow.below hRW2.out hb13)
        have HGT := hid (sget_on (C := fun P => P) Foc.self (fun _ h => h) HV13.out y.nm HYO.out.nm (fun x hx => ⟨HSI8.out.wf x hx, (HSI8.out.rg.1 x hx).2.2.1⟩))
        clear hlt2 hil hbl2 hr2 hb13 hV2 hRW2
        rw [hA8]
        have HA8 := hid hA8
        clear hA8
        go_wp2_with fail
        refine HGT.out.mono ?_
        rintro e w14 ⟨A14, m14, k14, rfl, ho14, -, hb14⟩
        rw [HYE.out.1]
        rw [HYE.out.2] at ho14
        have HV14 := hid (HV13.out.go (TS.ok _ _ _ _ _ _ _ _ _ _) hb14)
        have HRW14 : Hid (HRow w14 w.heap.size A1 n1 c1 hl) := hid (World.ownsRow.below HRW13.out hb14)
        have hst1 := own_str ho14 (c := k14)
        have hst2 := run_str (P := Tryz.prog) (c := y.c) 51 9 5 Tryz.underlying51 Tryz.underlying5 Tryz.underlying9 (HYO.out.b.below HV14.out.below (Nat.le_refl _))
        have hk14 := HKY.out.keep (hb14.block _ HKY.out.lt)
        clear y0 y1 y2 y3 y4 y5 c0' c1' c2 c3 c4 c5 HGT
        obtain ⟨y0, y1, y2, y3, y4, y5⟩ := hcB_cells (x := y) hk14
        clear ho14 hb14 hk14 HKY HV13 HRW13
        go_wp2_with fail
        rw [← HA8.out]
        go_roundg (n1 - (i + 1))
        case measure => have := hgk2.out; have := HIN.out; omega
        case rel => exact ⟨i + 1, by first | rfl | rw [wi], hid rfl, hid HIN.out, HV14, HRW14⟩
      · have hin : n1 = i := by have := hi.out; omega
        obtain rfl : n1 = i := hin
        have i2 : ¬ (n1 : Int) < (n1 : Int) := by omega
        clear hge2 hi hgk2
        go_wp2_with fail
        go_roundg (n - (j + 1))
        case measure => have := hgk.out; have := HJN.out; omega
        case rel => exact ⟨j + 1, d'.crash ks, v', c', gt, L', A1, n1, c1, hl, rfl, rfl, by first | rfl | rw [wj], hid rfl, hid HJN.out, HSI9, HHv8, HLN8, hid (by have hq := HBD8.out; have := HJ20.out; exact ⟨hq.1, rfl, by omega, by omega, by omega, by omega, by omega⟩), hV2, hRW2, HHO8⟩
  · have hjn : j = n := by have := hj.out; omega
    subst hjn
    have j2 : ¬ (j : Int) < (j : Int) := by omega
    clear hge hj hgk
    go_wp2
    go_ret
    exact ⟨rfl, hV.out.below⟩
end Go.Proofs.YtadhbjekbfdpiaaGreat
