/- The walk of StoreSeals: it answers true, whatever the input. -/
import Derived.Test.YtdkbpjkoiegflaaGreatStWh
import Derived.Test.YtdkbpjkoiegflaaGreatStAp
import Derived.Test.YtdkbpjkoiegflaaGreatRtRows
namespace Go.Proofs.YtdkbpjkoiegflaaGreat
open Go.RowKit

theorem own_cell1S {w : World} {e : TypeId} {kb n c : Nat} {xs : List Value} (h : w.ownsRow 0 e 1 (.slice (some ⟨kb, 0, none⟩) n c) n xs) {i : Nat} {u : Value} (hi : i < n) (hu : xs[i]? = some u) : w.cell? ⟨kb, i, none⟩ = some u ∧ w.frozen? ⟨kb, i, none⟩ = false := by
  rcases h.2 with ⟨hv, _⟩ | ⟨g, cap, cur, hv, _, hg, hnc, _, hcs, ht⟩
  · cases hv
  · injection hv with hA _ hcap
    injection hA with hA
    injection hA with hA
    subst hA hcap
    refine ⟨?_, Blk.frozen hg i⟩
    rw [Blk.cell hg]
    rw [← ht, List.getElem?_take, if_pos (by omega)] at hu
    simpa using hu
theorem small_kS {q : Nat} (h : q ≤ 1000) : IntKind.i64.wrap (q : Int) = (q : Int) ∧ wrap64 (q : Int) = (q : Int) ∧ IntKind.u64.wrap (q : Int) = (q : Int) := ⟨IntWalk.i64_in _ (by omega), by unfold wrap64; omega, by rw [IntKind.wrap_u64]; omega⟩
theorem min16S (n : Nat) : ∃ M : Nat, M ≤ n ∧ M ≤ 16 ∧ (if (n : Int) < 16 then (n : Int) else 16) = (M : Int) ∧ (if (16 : Int) < (n : Int) then (16 : Int) else (n : Int)) = (M : Int) ∧ (if (n : Int) ≤ 16 then (n : Int) else 16) = (M : Int) ∧ min (n : Int) 16 = (M : Int) := by
  by_cases h : n ≤ 16
  · refine ⟨n, Nat.le_refl _, h, ?_, ?_, ?_, by omega⟩
    · split <;> omega
    · rw [if_neg (by omega)]
    · rw [if_pos (by omega)]
  · refine ⟨16, by omega, Nat.le_refl _, ?_, ?_, ?_, by omega⟩
    · rw [if_neg (by omega)]; rfl
    · rw [if_pos (by omega)]; rfl
    · rw [if_neg (by omega)]; rfl
theorem ovS_lim (s : St) (i : Int) (l : List UInt8) : (ovS s i l).lim = s.lim := by unfold ovS; split <;> rfl
theorem meas_s {k m j : Nat} (h : k = m - j) (hj : j < m) : m - (j + 1) < k := by omega
theorem sl_25 {j : Nat} (h : ¬ 25 ≤ j) : j + 1 ≤ 25 := by omega
theorem sl_wk {k : Nat} (hk : k < 12) : wrap64 ((k : Int) + 1) = ((k + 1 : Nat) : Int) := by unfold wrap64; omega
theorem sl_wi {k m : Nat} (h : m ≤ 750) (hk : k < m) : wrap64 ((k : Int) + 1) = ((k + 1 : Nat) : Int) := by unfold wrap64; omega
theorem On.swapS {w wr : World} {P Q R : Ob} {X : Nat → Prop} (h : On w ((P.and Q).and R) wr X) : On w ((P.and R).and Q) wr X := by
  obtain ⟨F, ⟨A, B, ⟨C, D, h1, h2, h3, h4⟩, h5, h6, h7⟩, h8, h9, h10⟩ := h
  refine ⟨F, ⟨fun j => C j ∨ B j, D, ⟨C, B, h1, h5, fun j hj hb => h6 j ((h4 j).2 (.inl hj)) hb, fun j => Iff.rfl⟩, h2, ?_, ?_⟩, h8, h9, h10⟩
  · rintro j (hj | hj) hd
    · exact h3 j hj hd
    · exact h6 j ((h4 j).2 (.inr hd)) hj
  · intro j
    rw [h7 j, h4 j]
    constructor
    · rintro ((h | h) | h)
      · exact .inl (.inl h)
      · exact .inr h
      · exact .inl (.inr h)
    · rintro ((h | h) | h)
      · exact .inl (.inl h)
      · exact .inr h
      · exact .inl (.inr h)
set_option maxRecDepth 100000 in
theorem sget_nil (w : World) (nm : List UInt8) : Calls Tryz.prog 35 #[.pointer none, .string (str nm)] w fun e w' => e = .returned (.tuple #[.slice none 0 0, .int .i64 1]) ∧ w = w' := by
  go_enter Tryz.func35, Tryz.ntmps35
  go_wp2
  go_ret2
  exact ⟨rfl, rfl⟩
set_option maxRecDepth 100000 in
set_option maxHeartbeats 16000000 in
theorem walkStoreSeals (A : Option Addr) (n c0 : Nat) (w : World) (hops : OpsT w w.heap.size A n ∧ n ≤ 9223372036854775807) :
    Calls Tryz.prog 7 #[.slice A n c0] w fun e w' => e = .returned (.bool true) ∧ Below w.heap.size w w' := by
  have HOPS := hid hops.1
  have HN := hid hops.2
  clear hops
  go_enter Tryz.func7, Tryz.ntmps7
  go_wp2_with fail
  refine (stfirst_c w).mono ?_
  rintro e w1 ⟨rfl, hb1⟩
  have HB1 := hid hb1
  clear hb1
  go_wp2_with fail
  refine (dnew_on w w1 HB1.out 40 (by omega) (by omega)).mono ?_
  rintro e w2 ⟨gd, rfl, hv2, -⟩
  have HV2 := hid hv2
  clear hv2 HB1
  go_wp2_with fail
  refine (vnew_on HV2.out).mono ?_
  rintro e w3 ⟨gv, rfl, hv3, -⟩
  have HV3 := hid (tc_new hv3).1
  clear hv3 HV2
  go_wp2_with fail
  generalize w3.heap.size = gc at *
  generalize w3.alloc (.cells #[.int .i64 0, .int .i64 0] 33) = w4 at *
  refine (sopen_on Foc.self (fun _ h => h) HV3.out (by decide) (by decide)).mono ?_
  rintro e w5 ⟨pp, rfl, hb5, -, ho5⟩
  have HSI0 : Hid (SI (St.new 40) Va.new ⟨0, 0⟩ [] false) := hid (SI.init (by decide) (by decide))
  obtain ⟨hz, hzL⟩ := so_new (n := 40) (by decide)
  obtain ⟨gs, G5, rfl, hs5, hg5⟩ := ho5 hz
  rw [hz]
  rw [hzL] at hs5
  have HV5 : Hid (On w (TS gd (St.new 40) gv Va.new gc ⟨0, 0⟩ gs 40 [] false) w5 (fun _ => False)) := hid ((HV3.out.with_ (TC.ok _ _ _ _ _ _) hs5 hb5 hg5).less (fun x hx => hx.elim))
  clear HV3 hs5 hg5 hb5 ho5 hz hzL
  go_wp2_with fail
  go_loopg [9, 10, 40] n (fun kk hv sv iv w2 => ∃ (j : Nat) (d : St) (v : Va) (c : Ce) (L : List Bb) (A1 : Option Addr) (n1 c1 : Nat) (hl : List Hc) (X : Nat → Prop) (RA : Option Addr) (m rc : Nat) (vs : List Value), hv = .slice A1 n1 c1 ∧ sv = .slice RA m rc ∧ iv = .int .i64 (j : Int) ∧ Hid (kk = n - j) ∧ Hid (j ≤ n) ∧ Hid (SI d v c L true) ∧ Hid (Hv v L (hl.map Hc.ch)) ∧ Hid (hl.length = n1) ∧
    Hid (d.n = 40 ∧ d.lim = none ∧ d.W.length ≤ 30 * j ∧ v.L.length ≤ 30 * j ∧ c.ver ≤ j ∧ c.mark ≤ 600000 ∧ n1 ≤ 30 * j ∧ j ≤ 25) ∧ Hid (m ≤ 400) ∧ Hid (∀ b, A1.map (·.block) = some b → ¬ X b) ∧ Hid (On w (TS gd d gv v gc c gs 40 L false) w2 (fun b => X b ∨ A1.map (·.block) = some b)) ∧ Hid (HRow w2 w.heap.size A1 n1 c1 hl) ∧ Hid (∀ x ∈ hl, HcOk (fun b => b < w.heap.size) w x) ∧ Hid (RwG w2 X RA m rc vs))
  case atStart => exact ⟨0, _, _, _, [], none, 0, 0, [], fun _ => False, none, 0, 0, [], rfl, rfl, rfl, hid (by omega), hid (Nat.zero_le _), hid HSI0.out.idle, hid (Hv.init _), hid rfl, hid ⟨rfl, rfl, Nat.zero_le _, Nat.zero_le _, Nat.zero_le _, Nat.zero_le _, Nat.zero_le _, by omega⟩, hid (Nat.zero_le _), hid (fun x hx => by cases hx), hid (HV5.out.less fun x hx => by rcases hx with hx | hx; exact hx.elim; cases hx), hid (own_nilrow _ _ _ _), hid (fun x hx => by cases hx), hid (RwG.nil _ _)⟩
  case round =>
  obtain ⟨j, d, v, c, L, A1, n1, c1, hl, X, RA, m, rc, vs, rfl, rfl, rfl, hgk, hj, hSI, hHv, hln, hbd, hm4, hdx, hV, hRW, hHO, hRG⟩ := hrel
  clear HV5 HSI0
  rename World => w2
  rcases Nat.lt_or_ge j n with hlt | hge
  · have HJN := hid hlt
    have j1 : (0 : Int) ≤ (j : Int) := by omega
    have j2 : (j : Int) < (n : Int) := by omega
    have j3 : decide ((j : Int) < (n : Int)) = true := by simpa using hlt
    have j4 : decide (j < n) = true := by simpa using hlt
    have wj : wrap64 ((j : Int) + 1) = ((j + 1 : Nat) : Int) := by have := hbd.out; unfold wrap64; omega
    obtain ⟨b, off, o, rfl, hbl, hR0, hO0⟩ := HOPS.out j hlt
    have HO := hid hO0
    have hr0 := rangeAt_keep hR0 (hV.out.below.block b hbl)
    obtain ⟨c0', c1', c2, c3, c4, c5, c6, c7, c8⟩ := range9 hr0
    have hb3 : Below w2.heap.size w2 (w2.alloc (.cells #[.int .i64 (o).kind, .int .i64 (o).i, .int .i64 (o).fr, .slice (o).LA (o).Ln (o).Lc, .slice (o).BA (o).Bn (o).Bc, .slice (o).KA (o).Kn (o).Kc, .int .i64 (o).k.t, .int .i64 (o).k.c, .int .i64 (o).k.e] 56)) := (Below.refl _ _).alloc (Nat.le_refl _) _
    have HKB := hid (Blk.new w2 56 #[.int .i64 (o).kind, .int .i64 (o).i, .int .i64 (o).fr, .slice (o).LA (o).Ln (o).Lc, .slice (o).BA (o).Bn (o).Bc, .slice (o).KA (o).Kn (o).Kc, .int .i64 (o).k.t, .int .i64 (o).k.c, .int .i64 (o).k.e])
    obtain ⟨x0, x1, x2, x3, x4, x5, x6, x7, x8⟩ := opB_cells (o := o) HKB.out
    have HV3 := hid ((hV.out.add (TS.ok _ _ _ _ _ _ _ _ _ _) hb3 (Y := fun x => x = w2.heap.size) (fun x hx => by subst hx; simp)))
    have HRW3 : Hid (HRow (w2.alloc (.cells #[.int .i64 (o).kind, .int .i64 (o).i, .int .i64 (o).fr, .slice (o).LA (o).Ln (o).Lc, .slice (o).BA (o).Bn (o).Bc, .slice (o).KA (o).Kn (o).Kc, .int .i64 (o).k.t, .int .i64 (o).k.c, .int .i64 (o).k.e] 56)) w.heap.size A1 n1 c1 hl) := hid (World.ownsRow.below hRW.out hb3)
    have HRG3 := hid (hRG.out.stay (hV.out.stay hb3 |>.less fun x hx => .inl hx))
    clear hlt hbl hR0 hO0 hr0 hb3 hV hRW hRG
    by_cases h20 : 25 ≤ j
    · have m1 : decide ((25 : Int) ≤ (j : Int)) = true := by simp; omega
      have m2 : decide (25 ≤ j) = true := by simpa using h20
      clear h20
      go_wp2
      go_ret
      exact ⟨rfl, HV3.out.below⟩
    have m1 : decide ((25 : Int) ≤ (j : Int)) = false := by simp; omega
    have m2 : decide (25 ≤ j) = false := by simp; omega
    have HJ20 := hid h20
    clear h20
    have hlo := long_c o (w2.alloc (.cells #[.int .i64 (o).kind, .int .i64 (o).i, .int .i64 (o).fr, .slice (o).LA (o).Ln (o).Lc, .slice (o).BA (o).Bn (o).Bc, .slice (o).KA (o).Kn (o).Kc, .int .i64 (o).k.t, .int .i64 (o).k.c, .int .i64 (o).k.e] 56)) w.heap.size (HO.out.below HV3.out.below) HV3.out.below.size
    go_wp2_with fail
    clear m1 m2
    refine hlo.mono ?_
    rintro e w4 ⟨z, rfl, hb4, hz⟩
    have HV4 := hid (HV3.out.go (TS.ok _ _ _ _ _ _ _ _ _ _) hb4)
    have HRW4 : Hid (HRow w4 w.heap.size A1 n1 c1 hl) := hid (World.ownsRow.below HRW3.out hb4)
    have HRG4 := hid (HRG3.out.stay (HV3.out.stay hb4 |>.less fun x hx => .inl (.inl hx)))
    have HK4 := hid (HKB.out.keep (hb4.block _ HKB.out.lt))
    clear hlo hb4 HKB HV3 HRW3 HRG3 x0 x1 x2 x3 x4 x5 x6 x7 x8 c0' c1' c2 c3 c4 c5 c6 c7 c8
    rcases hz with rfl | ⟨hz, hsm⟩
    · go_wp2
      go_ret
      exact ⟨rfl, HV4.out.below⟩
    have m1 : decide ((1000 : Int) ≤ z) = false := by simp; omega
    have m2 : ¬ (1000 : Int) ≤ z := by omega
    have HSM := hid hsm
    obtain ⟨x0, x1, x2, x3, x4, x5, x6, x7, x8⟩ := opB_cells (o := o) HK4.out
    generalize w2.heap.size = bo at *
    clear hz hsm
    obtain ⟨kd, hkd, hkm⟩ := kmod0 o.kind 4 (by decide)
    rw [show ((4 : Nat) : Int) = 4 from rfl] at hkm
    have HKD := hid hkd
    clear hkd
    go_upto_block 2 with fail
    clear m1 m2 x0 x1 x2 x3 x4 x5 x6 x7 x8
    go_cut [9] (fun hv wx => ∃ (d' : St) (v' : Va) (c' : Ce) (L' : List Bb) (A8 : Option Addr) (n8 c8 : Nat) (h8 : List Hc), hv = .slice A8 n8 c8 ∧ Hid (SI d' v' c' L' true) ∧ Hid (Hv v' L' (h8.map Hc.ch)) ∧ Hid (h8.length = n8) ∧
      Hid (d'.n = 40 ∧ d'.lim = none ∧ d'.W.length ≤ 30 * (j + 1) ∧ v'.L.length ≤ 30 * (j + 1) ∧ c'.ver ≤ j + 1 ∧ c'.mark ≤ 600000 ∧ n8 ≤ 30 * (j + 1)) ∧ Hid (∀ b, A8.map (·.block) = some b → ¬ X b) ∧ Hid (On w (TS gd d' gv v' gc c' gs 40 L' false) wx (fun b => X b ∨ A8.map (·.block) = some b)) ∧ Hid (HRow wx w.heap.size A8 n8 c8 h8) ∧ Hid (∀ x ∈ h8, HcOk (fun b => b < w.heap.size) w x) ∧ Hid (RwG wx X RA m rc vs))
    case first =>
      rcases (show kd = 0 ∨ kd = 1 ∨ kd = 2 ∨ kd = 3 by clear hkm; have := HKD.out; omega) with rfl | rfl | rfl | rfl
      all_goals clear HKD
      · as_aux_lemma =>
        obtain ⟨x0, x1, x2, x3, x4, x5, x6, x7, x8⟩ := opB_cells (o := o) HK4.out
        have HLL : Hid (o.l.length = o.Ln) := hid HO.out.l.len
        have HCM := hid (SI.commit (s := ⟨d, v, c, L, false⟩) (l := o.l.map Hc.ch) hSI.out rfl hHv.out (by show v.L.length + _ ≤ _; rw [List.length_map, HLL.out]; clear hkm; have := hbd.out; have := HSM.out.l; omega) (fun x hx => by
          obtain ⟨y, hy, rfl⟩ := List.mem_map.1 hx
          obtain ⟨i, hi, rfl⟩ := List.mem_iff_getElem.1 hy
          exact (HO.out.l.el i hi).choose_spec.choose_spec.2.2.2.2.k))
        have hcm := commit_on (C := fun P => P) (q := o.Lc) Foc.self HV4.out ((HO.out.below HV4.out.below).l.mono fun b hb _ => .inr hb) (by clear hkm; have := HSM.out.l; omega) hSI.out.rg hSI.out.wf (fun x hx => by have := hSI.out.bl x hx; rw [show d.n = 40 from hbd.out.1] at this; exact this) hbd.out.1 (by show d.W.length ≤ _; clear hkm; have := hbd.out; omega) (by clear hkm; have := hbd.out; omega) (by clear hkm; have := hbd.out; omega)
        have HLN : Hid ((o.l.map Hc.ch).length ≤ 20) := hid (by rw [List.length_map, HLL.out]; exact HSM.out.l)
        generalize hcs : cmS ⟨d, v, c, L, false⟩ (o.l.map Hc.ch) = S at *
        clear hcs
        obtain ⟨E, d', v', c', L', dn'⟩ := S
        have HCO := hid hcm
        clear hcm
        go_wp2_with fail
        refine HCO.out.mono ?_
        rintro e w6 ⟨rfl, hv6, hst6⟩
        have HDN : Hid (d'.lim = none ∧ dn' = false) := hid (HCM.out.1.on hbd.out.2.1)
        have hdn := HDN.out.2
        rw [hdn] at hv6
        have HV6 : Hid (On w (TS gd d' gv v' gc c' gs 40 L' false) w6 (fun b => (X b ∨ A1.map (·.block) = some b) ∨ b = bo)) := hid hv6
        have HRW6 := hid (hrow_keep HRW4.out (hst6.less fun x hx => .inl (.inr hx)))
        have HRG6 := hid (HRG4.out.stay (hst6.less fun x hx => .inl (.inl hx)))
        have HK6 := hid (HK4.out.keep (hst6.2 bo (.inr rfl)))
        clear hv6 hst6 hdn HV4 HRW4 HRG4 HK4 HCO x0 x1 x2 x3 x4 x5 x6 x7 x8 hkm
        obtain ⟨x0, x1, x2, x3, x4, x5, x6, x7, x8⟩ := opB_cells (o := o) HK6.out
        have HSI8 : Hid (SI d' v' c' L' true) := hid HCM.out.1.si
        have HVV : Hid (d'.n = 40 ∧ d'.lim = none ∧ d'.W.length ≤ 30 * (j + 1) ∧ v'.L.length ≤ 30 * (j + 1) ∧ c'.ver ≤ j + 1 ∧ c'.mark ≤ 600000) := hid (by
          obtain ⟨E', h1, h2⟩ := HCM.out.1.V
          have h3 := HCM.out.1.n
          have h4 := HCM.out.1.Wl
          have h5 := HLN.out
          have h6 := hbd.out
          have h8 := HDN.out
          have h7 : c'.ver ≤ c.ver + 1 := by
            by_cases hE : E = 0
            · have := (HCM.out.1.ok hE).2; dsimp only at this; omega
            · have := (HCM.out.1.er hE).2; dsimp only at this; rw [this]; omega
          have hvl : v'.L.length ≤ 30 * (j + 1) := by dsimp only at h1; rw [h1, List.length_append]; clear wj; omega
          have h9 : c'.mark ≤ 600000 := by
            by_cases hE : E = 0
            · have hp := (HCM.out.1.ok hE).2
              dsimp only at hp
              obtain ⟨h5, h6⟩ := HSI8.out.rt.at_ (by omega)
              have h7 := (List.getElem?_eq_some_iff.1 h6).1
              clear wj
              omega
            · have := (HCM.out.1.er hE).2; dsimp only at this; rw [this]; clear wj; omega
          dsimp only at h3 h4
          clear wj
          refine ⟨h3.trans h6.1, h8.1, by omega, hvl, by omega, h9⟩)
        clear hSI HDN
        by_cases hE : E = 0
        · subst hE
          have HHv0 : Hid (Hv v' L' (applied (hl.map Hc.ch) (o.l.map Hc.ch))) := hid (by have := HCM.out.1.hv; dsimp only at this; rwa [if_pos rfl] at this)
          have HAP := hid (applied_c (w := w6) (U := fun b => b < w.heap.size ∨ A1.map (·.block) = some b) (ca := c1) (cb := o.Lc) (HRW6.out.chOn hln.out (fun b hb => .inr hb) (fun x hx => ((hHO.out x hx).keep HV6.out.below.size (fun b hb _ => HV6.out.below.block b hb)).wide fun b hb => .inl hb)) ((HO.out.below HV6.out.below).l.mono fun b hb _ => .inl hb) (by have := hbd.out; omega) (by have := HSM.out.l; omega))
          clear HCM
          go_wp2_with fail
          refine HAP.out.mono ?_
          rintro e w8 ⟨A8, n8, c8, h8, rfl, hr8, hl8, he8, hn8, hm8, hb8⟩
          have HV8 : Hid (On w (TS gd d' gv v' gc c' gs 40 L' false) w8 (fun b => X b ∨ A8.map (·.block) = some b)) := hid ((HV6.out.add (TS.ok _ _ _ _ _ _ _ _ _ _) hb8 (Y := fun b => A8.map (·.block) = some b) (fun x hx => ⟨own_ge hr8 x hx, own_lt hr8 x hx⟩)).less fun x hx => hx.elim (fun h => .inl (.inl (.inl h))) .inr)
          have HRW8 : Hid (HRow w8 w.heap.size A8 n8 c8 h8) := hid (ownsRow_base_a hr8 HV6.out.below.size)
          have HRG8 := hid (HRG6.out.stay (HV6.out.stay hb8 |>.less fun x hx => .inl (.inl hx)))
          have HDX8 : Hid (∀ b, A8.map (·.block) = some b → ¬ X b) := hid (fun b hb e => by have h1 := own_ge hr8 b hb; have h2 := HV6.out.lt (.inl (.inl e)); exact absurd h2 (Nat.not_lt.2 h1))
          have HHv8 : Hid (Hv v' L' (h8.map Hc.ch)) := hid (by rw [he8]; exact HHv0.out)
          have HLN8 : Hid (h8.length = n8) := hid hl8
          have HHO8 : Hid (∀ x ∈ h8, HcOk (fun b => b < w.heap.size) w x) := hid (fun x hx => by
            rcases hm8 x hx with h | h
            · exact hHO.out x h
            · obtain ⟨i, hi, rfl⟩ := List.mem_iff_getElem.1 h
              exact (HO.out.l.el i hi).choose_spec.choose_spec.2.2.2.2)
          have HBD8 : Hid (n8 ≤ 30 * (j + 1)) := hid (by have h1 := hbd.out; have h2 := HSM.out.l; clear wj; omega)
          clear hr8 hl8 he8 hn8 hm8 hb8 HAP HHv0 HV6 HRW6 HRG6 HK6 x0 x1 x2 x3 x4 x5 x6 x7 x8
          go_wp2_with fail
          go_meet
          case rel => exact ⟨d', v', c', L', A8, n8, c8, h8, rfl, HSI8, HHv8, HLN8, hid ⟨HVV.out.1, HVV.out.2.1, HVV.out.2.2.1, HVV.out.2.2.2.1, HVV.out.2.2.2.2.1, HVV.out.2.2.2.2.2, HBD8.out⟩, HDX8, HV8, HRW8, HHO8, HRG8⟩
        · have HHv8 : Hid (Hv v' L' (hl.map Hc.ch)) := hid (by have := HCM.out.1.hv; dsimp only at this; rwa [if_neg hE] at this)
          have z1 : (E == 0) = false := beq_eq_false_iff_ne.2 hE
          have z2 : decide (E = 0) = false := decide_eq_false hE
          have HBD8 : Hid (n1 ≤ 30 * (j + 1)) := hid (by have h1 := hbd.out; clear wj; omega)
          clear hE HCM x0 x1 x2 x3 x4 x5 x6 x7 x8
          go_wp2_with fail
          go_meet
          case rel => exact ⟨d', v', c', L', A1, n1, c1, hl, rfl, HSI8, HHv8, hln, hid ⟨HVV.out.1, HVV.out.2.1, HVV.out.2.2.1, HVV.out.2.2.2.1, HVV.out.2.2.2.2.1, HVV.out.2.2.2.2.2, HBD8.out⟩, hdx, hid (HV6.out.less fun x hx => .inl hx), HRW6, hHO, HRG6⟩
      · as_aux_lemma =>
        obtain ⟨x0, x1, x2, x3, x4, x5, x6, x7, x8⟩ := opB_cells (o := o) HK4.out
        have HLL : Hid (o.l.length = o.Ln) := hid HO.out.l.len
        have HCM := hid (SI.commit (s := ⟨d, v, c, L, false⟩) (l := o.l.map Hc.ch) hSI.out rfl hHv.out (by show v.L.length + _ ≤ _; rw [List.length_map, HLL.out]; clear hkm; have := hbd.out; have := HSM.out.l; omega) (fun x hx => by
          obtain ⟨y, hy, rfl⟩ := List.mem_map.1 hx
          obtain ⟨i, hi, rfl⟩ := List.mem_iff_getElem.1 hy
          exact (HO.out.l.el i hi).choose_spec.choose_spec.2.2.2.2.k))
        have hcm := commit_on (C := fun P => P) (q := o.Lc) Foc.self HV4.out ((HO.out.below HV4.out.below).l.mono fun b hb _ => .inr hb) (by clear hkm; have := HSM.out.l; omega) hSI.out.rg hSI.out.wf (fun x hx => by have := hSI.out.bl x hx; rw [show d.n = 40 from hbd.out.1] at this; exact this) hbd.out.1 (by show d.W.length ≤ _; clear hkm; have := hbd.out; omega) (by clear hkm; have := hbd.out; omega) (by clear hkm; have := hbd.out; omega)
        have HLN : Hid ((o.l.map Hc.ch).length ≤ 20) := hid (by rw [List.length_map, HLL.out]; exact HSM.out.l)
        generalize hcs : cmS ⟨d, v, c, L, false⟩ (o.l.map Hc.ch) = S at *
        clear hcs
        obtain ⟨E, d', v', c', L', dn'⟩ := S
        have HCO := hid hcm
        clear hcm
        go_wp2_with fail
        refine HCO.out.mono ?_
        rintro e w6 ⟨rfl, hv6, hst6⟩
        have HDN : Hid (d'.lim = none ∧ dn' = false) := hid (HCM.out.1.on hbd.out.2.1)
        have hdn := HDN.out.2
        rw [hdn] at hv6
        have HV6 : Hid (On w (TS gd d' gv v' gc c' gs 40 L' false) w6 (fun b => (X b ∨ A1.map (·.block) = some b) ∨ b = bo)) := hid hv6
        have HRW6 := hid (hrow_keep HRW4.out (hst6.less fun x hx => .inl (.inr hx)))
        have HRG6 := hid (HRG4.out.stay (hst6.less fun x hx => .inl (.inl hx)))
        have HK6 := hid (HK4.out.keep (hst6.2 bo (.inr rfl)))
        clear hv6 hst6 hdn HV4 HRW4 HRG4 HK4 HCO x0 x1 x2 x3 x4 x5 x6 x7 x8 hkm
        obtain ⟨x0, x1, x2, x3, x4, x5, x6, x7, x8⟩ := opB_cells (o := o) HK6.out
        have HSI8 : Hid (SI d' v' c' L' true) := hid HCM.out.1.si
        have HVV : Hid (d'.n = 40 ∧ d'.lim = none ∧ d'.W.length ≤ 30 * (j + 1) ∧ v'.L.length ≤ 30 * (j + 1) ∧ c'.ver ≤ j + 1 ∧ c'.mark ≤ 600000) := hid (by
          obtain ⟨E', h1, h2⟩ := HCM.out.1.V
          have h3 := HCM.out.1.n
          have h4 := HCM.out.1.Wl
          have h5 := HLN.out
          have h6 := hbd.out
          have h8 := HDN.out
          have h7 : c'.ver ≤ c.ver + 1 := by
            by_cases hE : E = 0
            · have := (HCM.out.1.ok hE).2; dsimp only at this; omega
            · have := (HCM.out.1.er hE).2; dsimp only at this; rw [this]; omega
          have hvl : v'.L.length ≤ 30 * (j + 1) := by dsimp only at h1; rw [h1, List.length_append]; clear wj; omega
          have h9 : c'.mark ≤ 600000 := by
            by_cases hE : E = 0
            · have hp := (HCM.out.1.ok hE).2
              dsimp only at hp
              obtain ⟨h5, h6⟩ := HSI8.out.rt.at_ (by omega)
              have h7 := (List.getElem?_eq_some_iff.1 h6).1
              clear wj
              omega
            · have := (HCM.out.1.er hE).2; dsimp only at this; rw [this]; clear wj; omega
          dsimp only at h3 h4
          clear wj
          refine ⟨h3.trans h6.1, h8.1, by omega, hvl, by omega, h9⟩)
        clear hSI HDN
        by_cases hE : E = 0
        · subst hE
          have HHv0 : Hid (Hv v' L' (applied (hl.map Hc.ch) (o.l.map Hc.ch))) := hid (by have := HCM.out.1.hv; dsimp only at this; rwa [if_pos rfl] at this)
          have HAP := hid (applied_c (w := w6) (U := fun b => b < w.heap.size ∨ A1.map (·.block) = some b) (ca := c1) (cb := o.Lc) (HRW6.out.chOn hln.out (fun b hb => .inr hb) (fun x hx => ((hHO.out x hx).keep HV6.out.below.size (fun b hb _ => HV6.out.below.block b hb)).wide fun b hb => .inl hb)) ((HO.out.below HV6.out.below).l.mono fun b hb _ => .inl hb) (by have := hbd.out; omega) (by have := HSM.out.l; omega))
          clear HCM
          go_wp2_with fail
          refine HAP.out.mono ?_
          rintro e w8 ⟨A8, n8, c8, h8, rfl, hr8, hl8, he8, hn8, hm8, hb8⟩
          have HV8 : Hid (On w (TS gd d' gv v' gc c' gs 40 L' false) w8 (fun b => X b ∨ A8.map (·.block) = some b)) := hid ((HV6.out.add (TS.ok _ _ _ _ _ _ _ _ _ _) hb8 (Y := fun b => A8.map (·.block) = some b) (fun x hx => ⟨own_ge hr8 x hx, own_lt hr8 x hx⟩)).less fun x hx => hx.elim (fun h => .inl (.inl (.inl h))) .inr)
          have HRW8 : Hid (HRow w8 w.heap.size A8 n8 c8 h8) := hid (ownsRow_base_a hr8 HV6.out.below.size)
          have HRG8 := hid (HRG6.out.stay (HV6.out.stay hb8 |>.less fun x hx => .inl (.inl hx)))
          have HDX8 : Hid (∀ b, A8.map (·.block) = some b → ¬ X b) := hid (fun b hb e => by have h1 := own_ge hr8 b hb; have h2 := HV6.out.lt (.inl (.inl e)); exact absurd h2 (Nat.not_lt.2 h1))
          have HHv8 : Hid (Hv v' L' (h8.map Hc.ch)) := hid (by rw [he8]; exact HHv0.out)
          have HLN8 : Hid (h8.length = n8) := hid hl8
          have HHO8 : Hid (∀ x ∈ h8, HcOk (fun b => b < w.heap.size) w x) := hid (fun x hx => by
            rcases hm8 x hx with h | h
            · exact hHO.out x h
            · obtain ⟨i, hi, rfl⟩ := List.mem_iff_getElem.1 h
              exact (HO.out.l.el i hi).choose_spec.choose_spec.2.2.2.2)
          have HBD8 : Hid (n8 ≤ 30 * (j + 1)) := hid (by have h1 := hbd.out; have h2 := HSM.out.l; clear wj; omega)
          clear hr8 hl8 he8 hn8 hm8 hb8 HAP HHv0 HV6 HRW6 HRG6 HK6 x0 x1 x2 x3 x4 x5 x6 x7 x8
          go_wp2_with fail
          go_meet
          case rel => exact ⟨d', v', c', L', A8, n8, c8, h8, rfl, HSI8, HHv8, HLN8, hid ⟨HVV.out.1, HVV.out.2.1, HVV.out.2.2.1, HVV.out.2.2.2.1, HVV.out.2.2.2.2.1, HVV.out.2.2.2.2.2, HBD8.out⟩, HDX8, HV8, HRW8, HHO8, HRG8⟩
        · have HHv8 : Hid (Hv v' L' (hl.map Hc.ch)) := hid (by have := HCM.out.1.hv; dsimp only at this; rwa [if_neg hE] at this)
          have z1 : (E == 0) = false := beq_eq_false_iff_ne.2 hE
          have z2 : decide (E = 0) = false := decide_eq_false hE
          have HBD8 : Hid (n1 ≤ 30 * (j + 1)) := hid (by have h1 := hbd.out; clear wj; omega)
          clear hE HCM x0 x1 x2 x3 x4 x5 x6 x7 x8
          go_wp2_with fail
          go_meet
          case rel => exact ⟨d', v', c', L', A1, n1, c1, hl, rfl, HSI8, HHv8, hln, hid ⟨HVV.out.1, HVV.out.2.1, HVV.out.2.2.1, HVV.out.2.2.2.1, HVV.out.2.2.2.2.1, HVV.out.2.2.2.2.2, HBD8.out⟩, hdx, hid (HV6.out.less fun x hx => .inl hx), HRW6, hHO, HRG6⟩
      · as_aux_lemma =>
        go_wp2_with fail
        obtain ⟨q, hq, hqm⟩ := kmod0 o.i 40 (by decide)
        rw [show ((40 : Nat) : Int) = 40 from rfl] at hqm
        obtain ⟨qw1, qw2, qw3⟩ := small_kS (q := q) (Nat.le_trans (Nat.le_of_lt hq) (by decide))
        obtain ⟨M, hM1, hM2, hM3, hM4, hM5, hM6⟩ := min16S o.Bn
        have HM1 := hid hM1
        have k0 : (0 : Int) ≤ (M : Int) := Int.natCast_nonneg M
        have k1 : (M : Int) ≤ (o.Bc : Int) := Int.ofNat_le.2 (Nat.le_trans hM1 HO.out.bc)
        have K3 : Hid (Blk w4.drew bo 56 #[.int .i64 (o).kind, .int .i64 (o).i, .int .i64 (o).fr, .slice (o).LA (o).Ln (o).Lc, .slice (o).BA (o).Bn (o).Bc, .slice (o).KA (o).Kn (o).Kc, .int .i64 (o).k.t, .int .i64 (o).k.c, .int .i64 (o).k.e]) := hid HK4.out
        have V3 := hid (On.go HV4.out (TS.ok _ _ _ _ _ _ _ _ _ _) (wr' := w4.drew) ((Below.refl _ _).drew))
        have R3 := hid (HRG4.out.stay (w' := w4.drew) ⟨Nat.le_refl _, fun _ _ => rfl⟩)
        have RW3 : Hid (HRow w4.drew w.heap.size A1 n1 c1 hl) := hid (World.ownsRow.below HRW4.out ((Below.refl _ _).drew))
        clear HV4 HK4 HRG4 HRW4 hq hM1 hM2
        refine wp_region_held_drew (S := fun wx => Blk wx bo 56 #[.int .i64 (o).kind, .int .i64 (o).i, .int .i64 (o).fr, .slice (o).LA (o).Ln (o).Lc, .slice (o).BA (o).Bn (o).Bc, .slice (o).KA (o).Kn (o).Kc, .int .i64 (o).k.t, .int .i64 (o).k.c, .int .i64 (o).k.e]) (by kernel_rfl) K3.out (fun HS => ?_)
        generalize w4.drew = w3 at *
        refine wpAnyH_take (i := 0) (oi := ?oio0) (v := ?vo0) ?hio0 (by kernel_rfl) (by kernel_rfl) (by kernel_rfl) ?hQo0 ?hyo0 HS ?resto0
        case hio0 => simp only [List.getElem?_toArray, List.getElem?_cons_zero]; exact rfl
        case hQo0 => exact fun _ _ _ h => h
        case hyo0 =>
          refine Or.inl ⟨by rfl, ?_⟩
          intro wS hSw
          go_simp
          try with_reducible rfl
        try simp only [Act.put, List.setIfInBounds_toArray, List.set_cons_zero, List.set_cons_succ]
        refine wpAnyH_take (i := 1) (oi := ?oio1) (v := ?vo1) ?hio1 (by kernel_rfl) (by kernel_rfl) (by kernel_rfl) ?hQo1 ?hyo1 HS ?resto1
        case hio1 => simp only [List.getElem?_toArray, List.getElem?_cons_succ, List.getElem?_cons_zero]; exact rfl
        case hQo1 => exact fun _ _ _ h => h
        case hyo1 =>
          refine Or.inl ⟨by rfl, ?_⟩
          intro wS hSw
          obtain ⟨x0, x1, x2, x3, x4, x5, x6, x7, x8⟩ := opB_cells (o := o) hSw
          go_simp
          try with_reducible rfl
        try simp only [Act.put, List.setIfInBounds_toArray, List.set_cons_zero, List.set_cons_succ]
        refine wpAnyH_take (i := 2) (oi := ?oio2) (v := ?vo2) ?hio2 (by kernel_rfl) (by kernel_rfl) (by kernel_rfl) ?hQo2 ?hyo2 HS ?resto2
        case hio2 => simp only [List.getElem?_toArray, List.getElem?_cons_succ, List.getElem?_cons_zero]; exact rfl
        case hQo2 => exact fun _ _ _ h => h
        case hyo2 =>
          refine Or.inl ⟨by rfl, ?_⟩
          intro wS hSw
          obtain ⟨x0, x1, x2, x3, x4, x5, x6, x7, x8⟩ := opB_cells (o := o) hSw
          go_simp
          try with_reducible rfl
        try simp only [Act.put, List.setIfInBounds_toArray, List.set_cons_zero, List.set_cons_succ]
        refine wpAnyH_take (i := 3) (oi := ?oio3) (v := ?vo3) ?hio3 (by kernel_rfl) (by kernel_rfl) (by kernel_rfl) ?hQo3 ?hyo3 HS ?resto3
        case hio3 => simp only [List.getElem?_toArray, List.getElem?_cons_succ, List.getElem?_cons_zero]; exact rfl
        case hQo3 => exact fun _ _ _ h => h
        case hyo3 =>
          refine Or.inl ⟨by rfl, ?_⟩
          intro wS hSw
          obtain ⟨x0, x1, x2, x3, x4, x5, x6, x7, x8⟩ := opB_cells (o := o) hSw
          go_simp
          try with_reducible rfl
        try simp only [Act.put, List.setIfInBounds_toArray, List.set_cons_zero, List.set_cons_succ]
        refine wpAnyH_take (i := 4) (oi := ?oio4) (v := ?vo4) ?hio4 (by kernel_rfl) (by kernel_rfl) (by kernel_rfl) ?hQo4 ?hyo4 HS ?resto4
        case hio4 => simp only [List.getElem?_toArray, List.getElem?_cons_succ, List.getElem?_cons_zero]; exact rfl
        case hQo4 => exact fun _ _ _ h => h
        case hyo4 =>
          refine Or.inl ⟨by rfl, ?_⟩
          intro wS hSw
          obtain ⟨x0, x1, x2, x3, x4, x5, x6, x7, x8⟩ := opB_cells (o := o) hSw
          go_simp
          try with_reducible rfl
        try simp only [Act.put, List.setIfInBounds_toArray, List.set_cons_zero, List.set_cons_succ]
        refine wpAnyH_take (i := 5) (oi := ?oio5) (v := ?vo5) ?hio5 (by kernel_rfl) (by kernel_rfl) (by kernel_rfl) ?hQo5 ?hyo5 HS ?resto5
        case hio5 => simp only [List.getElem?_toArray, List.getElem?_cons_succ, List.getElem?_cons_zero]; exact rfl
        case hQo5 => exact fun _ _ _ h => h
        case hyo5 =>
          refine Or.inl ⟨by rfl, ?_⟩
          intro wS hSw
          obtain ⟨x0, x1, x2, x3, x4, x5, x6, x7, x8⟩ := opB_cells (o := o) hSw
          go_simp
          try with_reducible rfl
        try simp only [Act.put, List.setIfInBounds_toArray, List.set_cons_zero, List.set_cons_succ]
        refine wpAnyH_take (i := 6) (oi := ?oio6) (v := ?vo6) ?hio6 (by kernel_rfl) (by kernel_rfl) (by kernel_rfl) ?hQo6 ?hyo6 HS ?resto6
        case hio6 => simp only [List.getElem?_toArray, List.getElem?_cons_succ, List.getElem?_cons_zero]; exact rfl
        case hQo6 => exact fun _ _ _ h => h
        case hyo6 =>
          refine Or.inl ⟨by rfl, ?_⟩
          intro wS hSw
          obtain ⟨x0, x1, x2, x3, x4, x5, x6, x7, x8⟩ := opB_cells (o := o) hSw
          go_simp
          try with_reducible rfl
        try simp only [Act.put, List.setIfInBounds_toArray, List.set_cons_zero, List.set_cons_succ]
        refine wpAnyH_take (i := 7) (oi := ?oio7) (v := ?vo7) ?hio7 (by kernel_rfl) (by kernel_rfl) (by kernel_rfl) ?hQo7 ?hyo7 HS ?resto7
        case hio7 => simp only [List.getElem?_toArray, List.getElem?_cons_succ, List.getElem?_cons_zero]; exact rfl
        case hQo7 => exact fun _ _ _ h => h
        case hyo7 =>
          refine Or.inl ⟨by rfl, ?_⟩
          intro wS hSw
          obtain ⟨x0, x1, x2, x3, x4, x5, x6, x7, x8⟩ := opB_cells (o := o) hSw
          go_simp
          try with_reducible rfl
        try simp only [Act.put, List.setIfInBounds_toArray, List.set_cons_zero, List.set_cons_succ]
        refine wpAnyH_take (i := 8) (oi := ?oio8) (v := ?vo8) ?hio8 (by kernel_rfl) (by kernel_rfl) (by kernel_rfl) ?hQo8 ?hyo8 HS ?resto8
        case hio8 => simp only [List.getElem?_toArray, List.getElem?_cons_succ, List.getElem?_cons_zero]; exact rfl
        case hQo8 => exact fun _ _ _ h => h
        case hyo8 =>
          refine Or.inl ⟨by rfl, ?_⟩
          intro wS hSw
          obtain ⟨x0, x1, x2, x3, x4, x5, x6, x7, x8⟩ := opB_cells (o := o) hSw
          go_simp
          try with_reducible rfl
        try simp only [Act.put, List.setIfInBounds_toArray, List.set_cons_zero, List.set_cons_succ]
        refine wpAnyH_take (i := 9) (oi := ?oio9) (v := ?vo9) ?hio9 (by kernel_rfl) (by kernel_rfl) (by kernel_rfl) ?hQo9 ?hyo9 HS ?resto9
        case hio9 => simp only [List.getElem?_toArray, List.getElem?_cons_succ, List.getElem?_cons_zero]; exact rfl
        case hQo9 => exact fun _ _ _ h => h
        case hyo9 =>
          refine Or.inl ⟨by rfl, ?_⟩
          intro wS hSw
          obtain ⟨x0, x1, x2, x3, x4, x5, x6, x7, x8⟩ := opB_cells (o := o) hSw
          go_simp
          try with_reducible rfl
        try simp only [Act.put, List.setIfInBounds_toArray, List.set_cons_zero, List.set_cons_succ]
        refine wpAnyH_take (i := 10) (oi := ?oio10) (v := ?vo10) ?hio10 (by kernel_rfl) (by kernel_rfl) (by kernel_rfl) ?hQo10 ?hyo10 HS ?resto10
        case hio10 => simp only [List.getElem?_toArray, List.getElem?_cons_succ, List.getElem?_cons_zero]; exact rfl
        case hQo10 => exact fun _ _ _ h => h
        case hyo10 =>
          refine Or.inl ⟨by rfl, ?_⟩
          intro wS hSw
          obtain ⟨x0, x1, x2, x3, x4, x5, x6, x7, x8⟩ := opB_cells (o := o) hSw
          go_simp
          try with_reducible rfl
        try simp only [Act.put, List.setIfInBounds_toArray, List.set_cons_zero, List.set_cons_succ]
        refine wpAnyH_take (i := 11) (oi := ?oio11) (v := ?vo11) ?hio11 (by kernel_rfl) (by kernel_rfl) (by kernel_rfl) ?hQo11 ?hyo11 HS ?resto11
        case hio11 => simp only [List.getElem?_toArray, List.getElem?_cons_succ, List.getElem?_cons_zero]; exact rfl
        case hQo11 => exact fun _ _ _ h => h
        case hyo11 =>
          refine Or.inl ⟨by rfl, ?_⟩
          intro wS hSw
          obtain ⟨x0, x1, x2, x3, x4, x5, x6, x7, x8⟩ := opB_cells (o := o) hSw
          go_simp
          try with_reducible rfl
        try simp only [Act.put, List.setIfInBounds_toArray, List.set_cons_zero, List.set_cons_succ]
        refine wpAnyH_take (i := 12) (oi := ?oio12) (v := ?vo12) ?hio12 (by kernel_rfl) (by kernel_rfl) (by kernel_rfl) ?hQo12 ?hyo12 HS ?resto12
        case hio12 => simp only [List.getElem?_toArray, List.getElem?_cons_succ, List.getElem?_cons_zero]; exact rfl
        case hQo12 => exact fun _ _ _ h => h
        case hyo12 =>
          refine Or.inl ⟨by rfl, ?_⟩
          intro wS hSw
          obtain ⟨x0, x1, x2, x3, x4, x5, x6, x7, x8⟩ := opB_cells (o := o) hSw
          go_simp
          try with_reducible rfl
        try simp only [Act.put, List.setIfInBounds_toArray, List.set_cons_zero, List.set_cons_succ]
        refine wpAnyH_ready (rs := [13]) (by kernel_rfl) (by simp) ?_
        refine AllReadyH.cons (o := ?oo13) ?hoo13 (fun K hK => ?stepo13) AllReadyH.nil
        case hoo13 => simp only [List.getElem?_toArray, List.getElem?_cons_succ, List.getElem?_cons_zero]; exact rfl
        go_simp
        refine (dover_on ((ts_t gs gd gv gc 40 L false).comp (tc_d gv v gc c)) V3.out (q : Int) o.BA M o.Bc (o.b.take M) (((HO.out.b.below V3.out.below (Nat.le_refl _)).wide (Nat.le_refl _) V3.out.below.size).take HM1.out) (Nat.le_trans hbd.out.2.2.1 (by have := HJ20.out; clear hqm hM3 hM4 hM5 hM6 wj; omega))).mono ?_
        rintro e w4 ⟨rfl, hv4, hk4⟩
        have V4 := hid hv4
        have R4 := hid (R3.out.stay (hk4.less fun x hx => .inl (.inl hx)))
        have RW4 := hid (hrow_keep RW3.out (hk4.less fun x hx => .inl (.inr hx)))
        have K4 := hid (K3.out.keep (hk4.2 bo (.inr rfl)))
        clear hv4 hk4
        refine hK.out _ _ K4.out (fun HS => ?_)
        clear hK K
        try simp only [Act.put, List.setIfInBounds_toArray, List.set_cons_zero, List.set_cons_succ]
        refine wpAnyH_done (by kernel_rfl) ?_ _
        clear HS hqm qw1 qw2 qw3 hM3 hM4 hM5 hM6
        go_wp2_with fail
        go_meet
        case rel => exact ⟨ovS d (q : Int) (o.b.take M), v, c, L, A1, n1, c1, hl, rfl, hid (hSI.out.over _ _), hHv, hln, hid ⟨(ovS_n _ _ _).trans hbd.out.1, (ovS_lim _ _ _).trans hbd.out.2.1, by have h1 := hbd.out; have h2 := ovS_W d (q : Int) ((o.b.take M)); clear wj; omega, by have h1 := hbd.out; clear wj; omega, by have h1 := hbd.out; clear wj; omega, hbd.out.2.2.2.2.2.1, by have h1 := hbd.out; clear wj; omega⟩, hdx, hid (V4.out.less fun x hx => .inl hx), RW4, hHO, R4⟩
      · as_aux_lemma =>
        rcases Nat.eq_zero_or_pos m with hz | hz
        · subst hz
          as_aux_lemma =>
          go_wp2_with fail
          go_meet
          case rel => exact ⟨d, v, c, L, A1, n1, c1, hl, rfl, hSI, hHv, hln, hid ⟨hbd.out.1, hbd.out.2.1, by have h1 := hbd.out; clear wj; omega, by have h1 := hbd.out; clear wj; omega, by have h1 := hbd.out; clear wj; omega, hbd.out.2.2.2.2.2.1, by have h1 := hbd.out; clear wj; omega⟩, hdx, hid (HV4.out.less fun x hx => .inl hx), HRW4, hHO, HRG4⟩
        · have z1 : decide ((0 : Int) < (m : Int)) = true := by clear hkm; simp; omega
          have z2 : decide (0 < m) = true := by clear hkm; simpa using hz
          obtain ⟨mw1, mw2, mw3⟩ := small_kS (q := m) (Nat.le_trans hm4.out (by decide))
          have z3 : ((m : Int) == 0) = false := by clear hkm; simp; omega
          have z4 : decide ((m : Int) = 0) = false := by clear hkm; simp; omega
          have z5 : ¬ (m : Int) = 0 := by clear hkm; omega
          have z6 : ¬ m = 0 := by clear hkm; omega
          obtain ⟨q, hq, hqm⟩ := kmod0 o.i 12 (by decide)
          rw [show ((12 : Nat) : Int) = 12 from rfl] at hqm
          obtain ⟨qw1, qw2, qw3⟩ := small_kS (q := q) (Nat.le_trans (Nat.le_of_lt hq) (by decide))
          obtain ⟨x, hx, hxm⟩ := kmod0 o.fr m hz
          have y1 : (0 : Int) ≤ (x : Int) := Int.natCast_nonneg x
          have y2 : (x : Int) < (m : Int) := Int.ofNat_lt.2 hx
          obtain ⟨xw1, xw2, xw3⟩ := small_kS (q := x) (Nat.le_trans (Nat.le_of_lt hx) (Nat.le_trans hm4.out (by decide)))
          obtain ⟨rb, hrb, -, -⟩ := own_range HRG4.out.own hz
          subst hrb
          obtain ⟨SA, sn, sc, sl, s1, s2, s3⟩ := HRG4.out.el x hx
          have HRB : Hid (X rb) := hid (HRG4.out.RX rb rfl)
          have HS3 := hid s3
          have hrc := (own_cell1S HRG4.out.own hx s1).1
          have HRC := hid hrc
          clear hz hq hx s1 s2 s3 hrc
          as_aux_lemma =>
          go_wp2_with fail
          have K3 : Hid (Blk w4.drew bo 56 #[.int .i64 (o).kind, .int .i64 (o).i, .int .i64 (o).fr, .slice (o).LA (o).Ln (o).Lc, .slice (o).BA (o).Bn (o).Bc, .slice (o).KA (o).Kn (o).Kc, .int .i64 (o).k.t, .int .i64 (o).k.c, .int .i64 (o).k.e]) := hid HK4.out
          have V3 := hid (On.go HV4.out (TS.ok _ _ _ _ _ _ _ _ _ _) (wr' := w4.drew) ((Below.refl _ _).drew))
          have R3 := hid (HRG4.out.stay (w' := w4.drew) ⟨Nat.le_refl _, fun _ _ => rfl⟩)
          have RW3 : Hid (HRow w4.drew w.heap.size A1 n1 c1 hl) := hid (World.ownsRow.below HRW4.out ((Below.refl _ _).drew))
          have T3 : Hid (Bts w4.drew 0 w4.drew.heap.size SA sn sl) := hid (HS3.out.keep (fun _ _ _ => rfl))
          have C3 : Hid (w4.drew.cell? ⟨rb, x, none⟩ = some (.slice SA sn sc)) := hid HRC.out
          clear HV4 HK4 HRG4 HRW4 HS3 HRC z1 z2
          refine wp_region_held_drew (S := fun wx => Blk wx bo 56 #[.int .i64 (o).kind, .int .i64 (o).i, .int .i64 (o).fr, .slice (o).LA (o).Ln (o).Lc, .slice (o).BA (o).Bn (o).Bc, .slice (o).KA (o).Kn (o).Kc, .int .i64 (o).k.t, .int .i64 (o).k.c, .int .i64 (o).k.e] ∧ wx.cell? ⟨rb, x, none⟩ = some (.slice SA sn sc)) (by kernel_rfl) ⟨K3.out, C3.out⟩ (fun HS => ?_)
          generalize w4.drew = w3 at *
          refine wpAnyH_take (i := 0) (oi := ?ois0) (v := ?vs0) ?his0 (by kernel_rfl) (by kernel_rfl) (by kernel_rfl) ?hQs0 ?hys0 HS ?rests0
          case his0 => simp only [List.getElem?_toArray, List.getElem?_cons_zero]; exact rfl
          case hQs0 => exact fun _ _ _ h => h
          case hys0 =>
            refine Or.inl ⟨by rfl, ?_⟩
            intro wS hSw
            go_simp
            try with_reducible rfl
          try simp only [Act.put, List.setIfInBounds_toArray, List.set_cons_zero, List.set_cons_succ]
          refine wpAnyH_take (i := 1) (oi := ?ois1) (v := ?vs1) ?his1 (by kernel_rfl) (by kernel_rfl) (by kernel_rfl) ?hQs1 ?hys1 HS ?rests1
          case his1 => simp only [List.getElem?_toArray, List.getElem?_cons_succ, List.getElem?_cons_zero]; exact rfl
          case hQs1 => exact fun _ _ _ h => h
          case hys1 =>
            refine Or.inl ⟨by rfl, ?_⟩
            intro wS hSw
            obtain ⟨x0, x1, x2, x3, x4, x5, x6, x7, x8⟩ := opB_cells (o := o) hSw.1
            have c5 := hSw.2
            go_simp
            try with_reducible rfl
          try simp only [Act.put, List.setIfInBounds_toArray, List.set_cons_zero, List.set_cons_succ]
          refine wpAnyH_take (i := 2) (oi := ?ois2) (v := ?vs2) ?his2 (by kernel_rfl) (by kernel_rfl) (by kernel_rfl) ?hQs2 ?hys2 HS ?rests2
          case his2 => simp only [List.getElem?_toArray, List.getElem?_cons_succ, List.getElem?_cons_zero]; exact rfl
          case hQs2 => exact fun _ _ _ h => h
          case hys2 =>
            refine Or.inl ⟨by rfl, ?_⟩
            intro wS hSw
            obtain ⟨x0, x1, x2, x3, x4, x5, x6, x7, x8⟩ := opB_cells (o := o) hSw.1
            have c5 := hSw.2
            go_simp
            try with_reducible rfl
          try simp only [Act.put, List.setIfInBounds_toArray, List.set_cons_zero, List.set_cons_succ]
          refine wpAnyH_take (i := 3) (oi := ?ois3) (v := ?vs3) ?his3 (by kernel_rfl) (by kernel_rfl) (by kernel_rfl) ?hQs3 ?hys3 HS ?rests3
          case his3 => simp only [List.getElem?_toArray, List.getElem?_cons_succ, List.getElem?_cons_zero]; exact rfl
          case hQs3 => exact fun _ _ _ h => h
          case hys3 =>
            refine Or.inl ⟨by rfl, ?_⟩
            intro wS hSw
            obtain ⟨x0, x1, x2, x3, x4, x5, x6, x7, x8⟩ := opB_cells (o := o) hSw.1
            have c5 := hSw.2
            go_simp
            try with_reducible rfl
          try simp only [Act.put, List.setIfInBounds_toArray, List.set_cons_zero, List.set_cons_succ]
          refine wpAnyH_take (i := 4) (oi := ?ois4) (v := ?vs4) ?his4 (by kernel_rfl) (by kernel_rfl) (by kernel_rfl) ?hQs4 ?hys4 HS ?rests4
          case his4 => simp only [List.getElem?_toArray, List.getElem?_cons_succ, List.getElem?_cons_zero]; exact rfl
          case hQs4 => exact fun _ _ _ h => h
          case hys4 =>
            refine Or.inl ⟨by rfl, ?_⟩
            intro wS hSw
            obtain ⟨x0, x1, x2, x3, x4, x5, x6, x7, x8⟩ := opB_cells (o := o) hSw.1
            have c5 := hSw.2
            go_simp
            try with_reducible rfl
          try simp only [Act.put, List.setIfInBounds_toArray, List.set_cons_zero, List.set_cons_succ]
          refine wpAnyH_take (i := 5) (oi := ?ois5) (v := ?vs5) ?his5 (by kernel_rfl) (by kernel_rfl) (by kernel_rfl) ?hQs5 ?hys5 HS ?rests5
          case his5 => simp only [List.getElem?_toArray, List.getElem?_cons_succ, List.getElem?_cons_zero]; exact rfl
          case hQs5 => exact fun _ _ _ h => h
          case hys5 =>
            refine Or.inl ⟨by rfl, ?_⟩
            intro wS hSw
            obtain ⟨x0, x1, x2, x3, x4, x5, x6, x7, x8⟩ := opB_cells (o := o) hSw.1
            have c5 := hSw.2
            go_simp
            try with_reducible rfl
          try simp only [Act.put, List.setIfInBounds_toArray, List.set_cons_zero, List.set_cons_succ]
          refine wpAnyH_take (i := 6) (oi := ?ois6) (v := ?vs6) ?his6 (by kernel_rfl) (by kernel_rfl) (by kernel_rfl) ?hQs6 ?hys6 HS ?rests6
          case his6 => simp only [List.getElem?_toArray, List.getElem?_cons_succ, List.getElem?_cons_zero]; exact rfl
          case hQs6 => exact fun _ _ _ h => h
          case hys6 =>
            refine Or.inl ⟨by rfl, ?_⟩
            intro wS hSw
            go_simp
            try with_reducible rfl
          try simp only [Act.put, List.setIfInBounds_toArray, List.set_cons_zero, List.set_cons_succ]
          refine wpAnyH_take (i := 7) (oi := ?ois7) (v := ?vs7) ?his7 (by kernel_rfl) (by kernel_rfl) (by kernel_rfl) ?hQs7 ?hys7 HS ?rests7
          case his7 => simp only [List.getElem?_toArray, List.getElem?_cons_succ, List.getElem?_cons_zero]; exact rfl
          case hQs7 => exact fun _ _ _ h => h
          case hys7 =>
            refine Or.inl ⟨by rfl, ?_⟩
            intro wS hSw
            obtain ⟨x0, x1, x2, x3, x4, x5, x6, x7, x8⟩ := opB_cells (o := o) hSw.1
            have c5 := hSw.2
            go_simp
            try with_reducible rfl
          try simp only [Act.put, List.setIfInBounds_toArray, List.set_cons_zero, List.set_cons_succ]
          refine wpAnyH_take (i := 8) (oi := ?ois8) (v := ?vs8) ?his8 (by kernel_rfl) (by kernel_rfl) (by kernel_rfl) ?hQs8 ?hys8 HS ?rests8
          case his8 => simp only [List.getElem?_toArray, List.getElem?_cons_succ, List.getElem?_cons_zero]; exact rfl
          case hQs8 => exact fun _ _ _ h => h
          case hys8 =>
            refine Or.inl ⟨by rfl, ?_⟩
            intro wS hSw
            obtain ⟨x0, x1, x2, x3, x4, x5, x6, x7, x8⟩ := opB_cells (o := o) hSw.1
            have c5 := hSw.2
            go_simp
            try with_reducible rfl
          try simp only [Act.put, List.setIfInBounds_toArray, List.set_cons_zero, List.set_cons_succ]
          refine wpAnyH_take (i := 9) (oi := ?ois9) (v := ?vs9) ?his9 (by kernel_rfl) (by kernel_rfl) (by kernel_rfl) ?hQs9 ?hys9 HS ?rests9
          case his9 => simp only [List.getElem?_toArray, List.getElem?_cons_succ, List.getElem?_cons_zero]; exact rfl
          case hQs9 => exact fun _ _ _ h => h
          case hys9 =>
            refine Or.inl ⟨by rfl, ?_⟩
            intro wS hSw
            obtain ⟨x0, x1, x2, x3, x4, x5, x6, x7, x8⟩ := opB_cells (o := o) hSw.1
            have c5 := hSw.2
            go_simp
            try with_reducible rfl
          try simp only [Act.put, List.setIfInBounds_toArray, List.set_cons_zero, List.set_cons_succ]
          refine wpAnyH_take (i := 10) (oi := ?ois10) (v := ?vs10) ?his10 (by kernel_rfl) (by kernel_rfl) (by kernel_rfl) ?hQs10 ?hys10 HS ?rests10
          case his10 => simp only [List.getElem?_toArray, List.getElem?_cons_succ, List.getElem?_cons_zero]; exact rfl
          case hQs10 => exact fun _ _ _ h => h
          case hys10 =>
            refine Or.inl ⟨by rfl, ?_⟩
            intro wS hSw
            go_simp
            try with_reducible rfl
          try simp only [Act.put, List.setIfInBounds_toArray, List.set_cons_zero, List.set_cons_succ]
          refine wpAnyH_take (i := 11) (oi := ?ois11) (v := ?vs11) ?his11 (by kernel_rfl) (by kernel_rfl) (by kernel_rfl) ?hQs11 ?hys11 HS ?rests11
          case his11 => simp only [List.getElem?_toArray, List.getElem?_cons_succ, List.getElem?_cons_zero]; exact rfl
          case hQs11 => exact fun _ _ _ h => h
          case hys11 =>
            refine Or.inl ⟨by rfl, ?_⟩
            intro wS hSw
            obtain ⟨x0, x1, x2, x3, x4, x5, x6, x7, x8⟩ := opB_cells (o := o) hSw.1
            have c5 := hSw.2
            go_simp
            try with_reducible rfl
          try simp only [Act.put, List.setIfInBounds_toArray, List.set_cons_zero, List.set_cons_succ]
          refine wpAnyH_take (i := 12) (oi := ?ois12) (v := ?vs12) ?his12 (by kernel_rfl) (by kernel_rfl) (by kernel_rfl) ?hQs12 ?hys12 HS ?rests12
          case his12 => simp only [List.getElem?_toArray, List.getElem?_cons_succ, List.getElem?_cons_zero]; exact rfl
          case hQs12 => exact fun _ _ _ h => h
          case hys12 =>
            refine Or.inl ⟨by rfl, ?_⟩
            intro wS hSw
            obtain ⟨x0, x1, x2, x3, x4, x5, x6, x7, x8⟩ := opB_cells (o := o) hSw.1
            have c5 := hSw.2
            go_simp
            try with_reducible rfl
          try simp only [Act.put, List.setIfInBounds_toArray, List.set_cons_zero, List.set_cons_succ]
          refine wpAnyH_take (i := 13) (oi := ?ois13) (v := ?vs13) ?his13 (by kernel_rfl) (by kernel_rfl) (by kernel_rfl) ?hQs13 ?hys13 HS ?rests13
          case his13 => simp only [List.getElem?_toArray, List.getElem?_cons_succ, List.getElem?_cons_zero]; exact rfl
          case hQs13 => exact fun _ _ _ h => h
          case hys13 =>
            refine Or.inl ⟨by rfl, ?_⟩
            intro wS hSw
            obtain ⟨x0, x1, x2, x3, x4, x5, x6, x7, x8⟩ := opB_cells (o := o) hSw.1
            have c5 := hSw.2
            go_simp
            try with_reducible rfl
          try simp only [Act.put, List.setIfInBounds_toArray, List.set_cons_zero, List.set_cons_succ]
          refine wpAnyH_take (i := 14) (oi := ?ois14) (v := ?vs14) ?his14 (by kernel_rfl) (by kernel_rfl) (by kernel_rfl) ?hQs14 ?hys14 HS ?rests14
          case his14 => simp only [List.getElem?_toArray, List.getElem?_cons_succ, List.getElem?_cons_zero]; exact rfl
          case hQs14 => exact fun _ _ _ h => h
          case hys14 =>
            refine Or.inl ⟨by rfl, ?_⟩
            intro wS hSw
            obtain ⟨x0, x1, x2, x3, x4, x5, x6, x7, x8⟩ := opB_cells (o := o) hSw.1
            have c5 := hSw.2
            go_simp
            try with_reducible rfl
          try simp only [Act.put, List.setIfInBounds_toArray, List.set_cons_zero, List.set_cons_succ]
          refine wpAnyH_take (i := 15) (oi := ?ois15) (v := ?vs15) ?his15 (by kernel_rfl) (by kernel_rfl) (by kernel_rfl) ?hQs15 ?hys15 HS ?rests15
          case his15 => simp only [List.getElem?_toArray, List.getElem?_cons_succ, List.getElem?_cons_zero]; exact rfl
          case hQs15 => exact fun _ _ _ h => h
          case hys15 =>
            refine Or.inl ⟨by rfl, ?_⟩
            intro wS hSw
            obtain ⟨x0, x1, x2, x3, x4, x5, x6, x7, x8⟩ := opB_cells (o := o) hSw.1
            have c5 := hSw.2
            go_simp
            try with_reducible rfl
          try simp only [Act.put, List.setIfInBounds_toArray, List.set_cons_zero, List.set_cons_succ]
          refine wpAnyH_take (i := 16) (oi := ?ois16) (v := ?vs16) ?his16 (by kernel_rfl) (by kernel_rfl) (by kernel_rfl) ?hQs16 ?hys16 HS ?rests16
          case his16 => simp only [List.getElem?_toArray, List.getElem?_cons_succ, List.getElem?_cons_zero]; exact rfl
          case hQs16 => exact fun _ _ _ h => h
          case hys16 =>
            refine Or.inl ⟨by rfl, ?_⟩
            intro wS hSw
            obtain ⟨x0, x1, x2, x3, x4, x5, x6, x7, x8⟩ := opB_cells (o := o) hSw.1
            have c5 := hSw.2
            go_simp
            try with_reducible rfl
          try simp only [Act.put, List.setIfInBounds_toArray, List.set_cons_zero, List.set_cons_succ]
          refine wpAnyH_ready (rs := [17]) (by kernel_rfl) (by simp) ?_
          refine AllReadyH.cons (o := ?os17) ?hos17 (fun K hK => ?steps17) AllReadyH.nil
          case hos17 => simp only [List.getElem?_toArray, List.getElem?_cons_succ, List.getElem?_cons_zero]; exact rfl
          go_simp
          refine (dover_on ((ts_t gs gd gv gc 40 L false).comp (tc_d gv v gc c)) V3.out (q : Int) SA sn sc sl T3.out (Nat.le_trans hbd.out.2.2.1 (by have := HJ20.out; clear hqm hxm wj; omega))).mono ?_
          rintro e w4 ⟨rfl, hv4, hk4⟩
          have V4 := hid hv4
          have R4 := hid (R3.out.stay (hk4.less fun x hx => .inl (.inl hx)))
          have RW4 := hid (hrow_keep RW3.out (hk4.less fun x hx => .inl (.inr hx)))
          have K4 := hid (K3.out.keep (hk4.2 bo (.inr rfl)))
          have C4 : Hid (w4.cell? ⟨rb, x, none⟩ = some (.slice SA sn sc)) := hid ((World.cell?_of_block (a := ⟨rb, x, none⟩) (hk4.2 rb (.inl (.inl HRB.out)))).trans C3.out)
          clear hv4 hk4
          refine hK.out _ _ ⟨K4.out, C4.out⟩ (fun HS => ?_)
          clear hK K
          try simp only [Act.put, List.setIfInBounds_toArray, List.set_cons_zero, List.set_cons_succ]
          refine wpAnyH_done (by kernel_rfl) ?_ _
          clear HS hqm qw1 qw2 qw3 hxm xw1 xw2 xw3 mw1 mw2 mw3
          go_wp2_with fail
          go_meet
          case rel => exact ⟨ovS d (q : Int) sl, v, c, L, A1, n1, c1, hl, rfl, hid (hSI.out.over _ _), hHv, hln, hid ⟨(ovS_n _ _ _).trans hbd.out.1, (ovS_lim _ _ _).trans hbd.out.2.1, by have h1 := hbd.out; have h2 := ovS_W d (q : Int) (sl); clear wj; omega, by have h1 := hbd.out; clear wj; omega, by have h1 := hbd.out; clear wj; omega, hbd.out.2.2.2.2.2.1, by have h1 := hbd.out; clear wj; omega⟩, hdx, hid (V4.out.less fun x hx => .inl hx), RW4, hHO, R4⟩
    case rest =>
    obtain ⟨d2, v2, c2, L2, A2, n2, cc2, h2, rfl, hSI2, hHv2, hln2, hbd2, hdx2, hV2, hRW2, hHO2, hRG2⟩ := hcut
    clear HV4 HRW4 HRG4 HK4 hkm HKD hSI hHv hln hbd hHO hdx HO HSM
    go_wp2_with fail
    go_loopg [10, 105] 12 (fun kk sv iv wq => ∃ (k : Nat) (RA : Option Addr) (m rc : Nat) (vs : List Value) (X : Nat → Prop), sv = .slice RA m rc ∧ iv = .int .i64 (k : Int) ∧ Hid (kk = 12 - k) ∧ Hid (k ≤ 12) ∧ Hid (m ≤ 400) ∧ Hid (∀ b, A2.map (·.block) = some b → ¬ X b) ∧ Hid (On w (TS gd d2 gv v2 gc c2 gs 40 L2 false) wq (fun b => X b ∨ A2.map (·.block) = some b)) ∧ Hid (RwG wq X RA m rc vs) ∧ Hid (HRow wq w.heap.size A2 n2 cc2 h2))
    case atStart => exact ⟨0, RA, m, rc, vs, X, rfl, rfl, hid rfl, hid (Nat.zero_le _), hm4, hdx2, hV2, hRG2, hRW2⟩
    case round =>
    obtain ⟨k, RA', m', rc', vs', X', rfl, rfl, hgi, hk2, hmm, hDx, hVq, hRq, hHq⟩ := hrel
    clear hV2 hRG2 hRW2 hm4 hdx2
    rename World => wq
    rcases Nat.lt_or_ge k 12 with hlt | hge
    · have HLI := hid hlt
      have i3 : decide ((k : Int) < 12) = true := by simp; omega
      have i4 : decide (k < 12) = true := decide_eq_true hlt
      have wi : wrap64 ((k : Int) + 1) = ((k + 1 : Nat) : Int) := sl_wk hlt
      clear hlt
      as_aux_lemma =>
      go_wp2_with fail
      refine (dread_on ((ts_t gs gd gv gc 40 L2 false).comp (tc_d gv v2 gc c2)) hVq.out (k : Int)).mono ?_
      rintro e v7 ⟨A7, n7, k7, rfl, ho7, -, hb7⟩
      have HV7 := hid (On.row hVq.out (TS.ok _ _ _ _ _ _ _ _ _ _) hb7 ho7)
      have HV7' := hid (On.go hVq.out (TS.ok _ _ _ _ _ _ _ _ _ _) hb7)
      have HR7 := hid (hRq.out.stay (hVq.out.stay hb7 |>.less fun x hx => .inl hx))
      have HH7 : Hid (HRow v7 w.heap.size A2 n2 cc2 h2) := hid (World.ownsRow.below hHq.out hb7)
      have HT7 := hid ((Bts.own ho7).wide (Nat.zero_le _) (Nat.le_refl _))
      have HX7 := hid (fun x (hx : X' x) => Nat.lt_of_lt_of_le (hVq.out.lt (.inl hx)) hb7.size)
      have HA7 := hid (fun y (hy : A7.map (·.block) = some y) => And.intro (show ¬ X' y from fun e => by have h1 := hVq.out.lt (.inl e); have h2 := own_ge ho7 y hy; omega) (own_lt ho7 y hy))
      have HA27 : Hid (∀ y, A2.map (·.block) = some y → A7.map (·.block) ≠ some y) := hid (fun y hy e => by have h1 := own_lt hHq.out y hy; have h2 := own_ge ho7 y e; omega)
      clear ho7 hb7 hVq hRq hHq
      by_cases he : rdE d2 (k : Int) = 0
      · rw [he]
        clear he
        by_cases h200 : m' < 400
        · have z1 : decide ((m' : Int) < 400) = true := by simp; omega
          have z2 : decide (m' < 400) = true := by simpa using h200
          have HM2 := hid h200
          have HN8 : Hid ((v7.alloc (.cells #[.slice A7 n7 k7] 51)).rangeAt v7.heap.size 0 [.slice A7 n7 k7]) := hid (fun t u hu => by
            rw [(Blk.new v7 51 #[.slice A7 n7 k7]).cell, Nat.zero_add]
            rw [show (#[.slice A7 n7 k7] : Array Value) = ([.slice A7 n7 k7] : List Value).toArray from rfl, List.getElem?_toArray]
            exact hu)
          have HO8 : Hid ((v7.alloc (.cells #[.slice A7 n7 k7] 51)).ownsRow 0 51 1 (.slice RA' m' rc') m' vs') := hid (own_keep HR7.out.own fun y hy => ((Below.refl v7.heap.size v7).alloc (Nat.le_refl _) _).block y (own_lt HR7.out.own y hy))
          clear h200 HV7'
          as_aux_lemma =>
          go_wp2_with (at_builtin; refine wpList_append_z rfl 96 51 _ 1 24 Tryz.underlying96 Tryz.infoRowsG rfl (by decide) (by decide) _ _ rfl RA' m' rc' vs' rfl HO8.out v7.heap.size rfl [.slice A7 n7 k7] rfl HN8.out (by simp [Value.oneCell']) (by have := HM2.out; omega) ?_)
          intro RB rcB w9 ho9 hg9 hl9
          have hs8 : (v7.alloc (.cells #[.slice A7 n7 k7] 51)).heap.size = v7.heap.size + 1 := by simp
          have HR9 := hid (HR7.out.push HX7.out HT7.out HA7.out ho9 hg9 hl9)
          have hneq : ∀ y, A2.map (·.block) = some y → RA'.map (·.block) ≠ some y := fun y hy e => hDx.out y hy (HR7.out.RX y e)
          have HV9 : Hid (On w (TS gd d2 gv v2 gc c2 gs 40 L2 false) w9 (fun x => ((X' x ∨ A7.map (·.block) = some x) ∨ RB.map (·.block) = some x) ∨ A2.map (·.block) = some x)) := hid ((On.go HV7.out (TS.ok _ _ _ _ _ _ _ _ _ _) ((Below.refl _ _).alloc (Nat.le_refl _) _)).grew (TS.ok _ _ _ _ _ _ _ _ _ _) hg9 (fun q hq => .inl (.inl (HR7.out.RX q hq))) (fun x hx => by
            rcases hx with (hx | hx) | hx
            · rcases hx with hx | hx
              · exact .inl (.inl (.inl hx))
              · exact .inl (.inr hx)
            · rcases hl9 x hx with e | e
              · exact .inl (.inl (.inl (HR7.out.RX x e)))
              · exact .inr ⟨by omega, own_lt ho9 x hx⟩
            · exact .inl (.inl (.inr hx))))
          have HH9 : Hid (HRow w9 w.heap.size A2 n2 cc2 h2) := hid (own_keep HH7.out fun y hy => (hg9.block y (by have := own_lt HH7.out y hy; omega) (fun e => hneq y hy e.symm)).trans (((Below.refl v7.heap.size v7).alloc (Nat.le_refl _) _).block y (own_lt HH7.out y hy)))
          have HD9 : Hid (∀ y, A2.map (·.block) = some y → ¬ ((X' y ∨ A7.map (·.block) = some y) ∨ RB.map (·.block) = some y)) := hid (fun y hy e => by
            rcases e with (e | e) | e
            · exact hDx.out y hy e
            · exact HA27.out y hy e
            · rcases hl9 y e with e | e
              · exact hneq y hy e
              · have := own_lt HH7.out y hy; omega)
          clear ho9 hg9 hl9 hs8 HN8 HO8 HV7 HR7 HT7 HX7 HA7 HH7 HA27 hneq
          go_wp2_with fail
          go_roundg (12 - (k + 1))
          case measure => exact meas_s hgi.out HLI.out
          case rel => exact ⟨k + 1, RB, m' + 1, rcB, _, _, rfl, congrArg (Value.int .i64) (by first | exact wi | omega | rfl), hid rfl, hid HLI.out, hid HM2.out, HD9, HV9, HR9, HH9⟩
        · have z1 : decide ((m' : Int) < 400) = false := by simp; omega
          have z2 : decide (m' < 400) = false := by simpa using h200
          clear h200 HV7 HT7 HX7 HA7
          as_aux_lemma =>
          go_wp2_with fail
          go_roundg (12 - (k + 1))
          case measure => exact meas_s hgi.out HLI.out
          case rel => exact ⟨k + 1, RA', m', rc', vs', X', rfl, congrArg (Value.int .i64) (by first | exact wi | omega | rfl), hid rfl, hid HLI.out, hmm, hDx, HV7', HR7, HH7⟩
      · generalize rdE d2 (k : Int) = E at *
        have z1 : (E == 0) = false := by simpa using he
        have z2 : decide (E = 0) = false := by simpa using he
        clear he HV7 HT7 HX7 HA7
        as_aux_lemma =>
        go_wp2_with fail
        go_roundg (12 - (k + 1))
        case measure => exact meas_s hgi.out HLI.out
        case rel => exact ⟨k + 1, RA', m', rc', vs', X', rfl, congrArg (Value.int .i64) (by first | exact wi | omega | rfl), hid rfl, hid HLI.out, hmm, hDx, HV7', HR7, HH7⟩
    · have i3 : decide ((k : Int) < 12) = false := by simp; omega
      have i4 : decide (k < 12) = false := by simp; omega
      have HOP := hid (hSI2.out.open_ (by have := hbd2.out; have := HJ20.out; omega))
      clear hge hgi hk2
      go_wp2_with fail
      clear i3 i4
      refine (sopen_on (C := fun P => P.and (StO gs gd gv gc 40 L2 false)) (d := d2) (v := v2) (c := c2) (ts_t gs gd gv gc 40 L2 false) (fun P h => h.and (StO.ok _ _ _ _ _ _ _)) hVq.out (by have := hbd2.out; have := HJ20.out; omega) hbd2.out.2.2.2.2.2.1).mono ?_
      rintro e w7 ⟨pp, rfl, hb7, hp0, ho7⟩
      have HV7 := hid (On.go hVq.out (TS.ok _ _ _ _ _ _ _ _ _ _) hb7)
      have HR7 := hid (hRq.out.stay (hVq.out.stay hb7 |>.less fun x hx => .inl hx))
      have HH7 : Hid (HRow w7 w.heap.size A2 n2 cc2 h2) := hid (World.ownsRow.below hHq.out hb7)
      have HGET : Hid (∀ y ∈ h2, (sgE d2 v2 L2 y.nm = 0 ∧ sgB d2 v2 L2 y.nm = y.body) ∨ sgE d2 v2 L2 y.nm = 51) := hid (fun y hy => by
        obtain ⟨bb, hb1, hb2, _, hb4⟩ := hHv2.out.2 y.ch (List.mem_map_of_mem hy)
        have hnm : bb.nm = y.nm := hb2
        rcases hSI2.out.get hb1 hb4 with h | ⟨_, h⟩ | ⟨h, _⟩
        · rw [hnm] at h; exact .inl h
        · rw [hbd2.out.2.1] at h; cases h
        · rw [hnm] at h; exact .inr h)
      have HWF : Hid (∀ y ∈ L2, y.wf ∧ y.p.k = y.k) := hid (fun y hy => ⟨hSI2.out.wf y hy, (hSI2.out.rg.1 y hy).2.2.1⟩)
      have HFIN : Hid (d2.n = 40 ∧ d2.lim = none ∧ d2.W.length ≤ 30 * (j + 1) ∧ v2.L.length ≤ 30 * (j + 1) ∧ c2.ver ≤ j + 1 ∧ c2.mark ≤ 600000 ∧ n2 ≤ 30 * (j + 1) ∧ j + 1 ≤ 25) := hid ⟨hbd2.out.1, hbd2.out.2.1, hbd2.out.2.2.1, hbd2.out.2.2.2.1, hbd2.out.2.2.2.2.1, hbd2.out.2.2.2.2.2.1, hbd2.out.2.2.2.2.2.2, sl_25 HJ20.out⟩
      have HN750 : Hid (n2 ≤ 750) := hid (by have := hbd2.out; have := HJ20.out; omega)
      rcases HOP.out with ⟨ho, hoL⟩ | ⟨_, hx⟩ | ⟨ho, _⟩
      · obtain ⟨gt, G7, rfl, hs7, hg7⟩ := ho7 ho
        rw [hoL, hbd2.out.1] at hs7
        rw [ho]
        have HV8 : Hid (On w ((TS gd d2 gv v2 gc c2 gs 40 L2 false).and (StO gt gd gv gc 40 L2 false)) w7 (fun b => X' b ∨ A2.map (·.block) = some b)) := hid (hVq.out.with_ (TS.ok _ _ _ _ _ _ _ _ _ _) hs7 hb7 hg7)
        clear hs7 hg7 ho7 hp0 HV7 hVq hRq hHq hb7 HOP ho hoL
        go_wp2_with fail
        go_loopg [141] n2 (fun kk iv wr => ∃ i : Nat, iv = .int .i64 (i : Int) ∧ Hid (kk = n2 - i) ∧ Hid (i ≤ n2) ∧ Hid (On w ((TS gd d2 gv v2 gc c2 gs 40 L2 false).and (StO gt gd gv gc 40 L2 false)) wr (fun b => X' b ∨ A2.map (·.block) = some b)) ∧ Hid (RwG wr X' RA' m' rc' vs') ∧ Hid (HRow wr w.heap.size A2 n2 cc2 h2))
        case atStart => exact ⟨0, rfl, hid rfl, hid (Nat.zero_le _), HV8, HR7, HH7⟩
        case round =>
        obtain ⟨i, rfl, hgk2, hi, hQ, hG, hR⟩ := hrel
        clear HV8 HR7 HH7
        rename World => wr
        rcases Nat.lt_or_ge i n2 with hlt2 | hge2
        · have HIN := hid hlt2
          have hih : i < h2.length := by rw [hln2.out]; exact hlt2
          have i1 : (0 : Int) ≤ (i : Int) := Int.natCast_nonneg i
          have i2 : (i : Int) < (n2 : Int) := Int.ofNat_lt.2 hlt2
          have i3 : decide ((i : Int) < (n2 : Int)) = true := decide_eq_true i2
          have i4 : decide (i < n2) = true := decide_eq_true hlt2
          have wi : wrap64 ((i : Int) + 1) = ((i + 1 : Nat) : Int) := sl_wi HN750.out hlt2
          have HYO := hid (hHO2.out _ (List.getElem_mem hih))
          have HGY := hid (HGET.out _ (List.getElem_mem hih))
          obtain ⟨b2, hA8, hbl2, hr2⟩ := hR.out.elem hln2.out hih
          generalize h2[i] = y at *
          obtain ⟨c0', c1', c2', c3, c4, c5⟩ := range6 hr2
          have hb13 : Below wr.heap.size wr (wr.alloc (.cells #[.string (str (y).nm), .int .i64 (y).k.t, .int .i64 (y).k.c, .int .i64 (y).k.e, .slice (y).A (y).n (y).c, .bool (y).dr] 94)) := (Below.refl _ _).alloc (Nat.le_refl _) _
          have HKY := hid (Blk.new wr 94 #[.string (str (y).nm), .int .i64 (y).k.t, .int .i64 (y).k.c, .int .i64 (y).k.e, .slice (y).A (y).n (y).c, .bool (y).dr])
          obtain ⟨y0, y1, y2', y3, y4, y5⟩ := hcB_cells (x := y) HKY.out
          have HQ2 := hid (hQ.out.go ((TS.ok _ _ _ _ _ _ _ _ _ _).and (StO.ok _ _ _ _ _ _ _)) hb13)
          have HG2 := hid (hG.out.stay (hQ.out.stay hb13 |>.less fun x hx => .inl hx))
          have HR2 : Hid (HRow (wr.alloc (.cells #[.string (str (y).nm), .int .i64 (y).k.t, .int .i64 (y).k.c, .int .i64 (y).k.e, .slice (y).A (y).n (y).c, .bool (y).dr] 94)) w.heap.size A2 n2 cc2 h2) := hid (World.ownsRow.below hR.out hb13)
          have HGT := hid (sget_on (C := fun P => P.and (StO gt gd gv gc 40 L2 false)) (ts_t gt gd gv gc 40 L2 false) (fun P h => h.and (StO.ok _ _ _ _ _ _ _)) HQ2.out y.nm HYO.out.nm HWF.out)
          clear hlt2 hih hbl2 hr2 hb13 hQ hG hR
          rw [hA8]
          have HA2E := hid hA8
          clear hA8
          go_wp2_with fail
          clear c0' c1' c2' c3 c4 c5 y0 y1 y2' y3 y4 y5
          refine HGT.out.mono ?_
          rintro e w14 ⟨A14, m14, k14, rfl, ho14, -, hb14⟩
          have HQ3 := hid (HQ2.out.go ((TS.ok _ _ _ _ _ _ _ _ _ _).and (StO.ok _ _ _ _ _ _ _)) hb14)
          have HG3 := hid (HG2.out.stay (HQ2.out.stay hb14 |>.less fun x hx => .inl hx))
          have HR3 : Hid (HRow w14 w.heap.size A2 n2 cc2 h2) := hid (World.ownsRow.below HR2.out hb14)
          have HKY3 := hid (HKY.out.keep (hb14.block _ HKY.out.lt))
          obtain ⟨y0, y1, y2', y3, y4, y5⟩ := hcB_cells (x := y) HKY3.out
          rcases HGY.out with ⟨ge, gb⟩ | ge
          · rw [ge]
            rw [gb] at ho14
            have hst1 := own_str ho14 (c := k14)
            have hst2 := run_str (P := Tryz.prog) (c := y.c) 51 9 5 Tryz.underlying51 Tryz.underlying5 Tryz.underlying9 (HYO.out.b.below HQ3.out.below (Nat.le_refl _))
            clear ho14 hb14 HKY HQ2 HG2 HR2 HGT ge gb
            have HGU := hid (sget_on (C := fun P => P.and (StO gs gd gv gc 40 L2 false)) (ts_t gs gd gv gc 40 L2 false) (fun P h => h.and (StO.ok _ _ _ _ _ _ _)) (On.swapS HQ3.out) y.nm HYO.out.nm HWF.out)
            go_wp2_with fail
            clear y0 y1 y2' y3 y4 y5
            refine HGU.out.mono ?_
            rintro e w15 ⟨A15, m15, k15, rfl, ho15, -, hb15⟩
            have HQ4 := hid (HQ3.out.go ((TS.ok _ _ _ _ _ _ _ _ _ _).and (StO.ok _ _ _ _ _ _ _)) hb15)
            have HG4 := hid (HG3.out.stay (HQ3.out.stay hb15 |>.less fun x hx => .inl hx))
            have HR4 : Hid (HRow w15 w.heap.size _ n2 cc2 h2) := hid (World.ownsRow.below HR3.out hb15)
            have hk15 := HKY3.out.keep (hb15.block _ HKY3.out.lt)
            obtain ⟨y0, y1, y2', y3, y4, y5⟩ := hcB_cells (x := y) hk15
            rcases HGY.out with ⟨ge, gb⟩ | ge
            · rw [ge]
              rw [gb] at ho15
              have hst3 := own_str ho15 (c := k15)
              have hst4 := run_str (P := Tryz.prog) (c := y.c) 51 9 5 Tryz.underlying51 Tryz.underlying5 Tryz.underlying9 (HYO.out.b.below HQ4.out.below (Nat.le_refl _))
              clear ho15 hb15 hk15 HQ3 HG3 HR3 HKY3 HGU
              go_wp2_with fail
              rw [← HA2E.out]
              go_roundg (n2 - (i + 1))
              case measure => exact meas_s hgk2.out HIN.out
              case rel => exact ⟨i + 1, by first | rfl | rw [wi], hid rfl, hid HIN.out, HQ4, HG4, HR4⟩
            · rw [ge]
              clear ho15 hb15 hk15 HQ3 HG3 HR3 HKY3 HGU
              go_wp2_with fail
              rw [← HA2E.out]
              go_roundg (n2 - (i + 1))
              case measure => exact meas_s hgk2.out HIN.out
              case rel => exact ⟨i + 1, by first | rfl | rw [wi], hid rfl, hid HIN.out, HQ4, HG4, HR4⟩
          · rw [ge]
            clear ho14 hb14 HKY HQ2 HG2 HR2 HGT ge
            have HGU := hid (sget_on (C := fun P => P.and (StO gs gd gv gc 40 L2 false)) (ts_t gs gd gv gc 40 L2 false) (fun P h => h.and (StO.ok _ _ _ _ _ _ _)) (On.swapS HQ3.out) y.nm HYO.out.nm HWF.out)
            go_wp2_with fail
            clear y0 y1 y2' y3 y4 y5
            refine HGU.out.mono ?_
            rintro e w15 ⟨A15, m15, k15, rfl, ho15, -, hb15⟩
            have HQ4 := hid (HQ3.out.go ((TS.ok _ _ _ _ _ _ _ _ _ _).and (StO.ok _ _ _ _ _ _ _)) hb15)
            have HG4 := hid (HG3.out.stay (HQ3.out.stay hb15 |>.less fun x hx => .inl hx))
            have HR4 : Hid (HRow w15 w.heap.size _ n2 cc2 h2) := hid (World.ownsRow.below HR3.out hb15)
            have hk15 := HKY3.out.keep (hb15.block _ HKY3.out.lt)
            obtain ⟨y0, y1, y2', y3, y4, y5⟩ := hcB_cells (x := y) hk15
            rcases HGY.out with ⟨ge, gb⟩ | ge
            · rw [ge]
              rw [gb] at ho15
              have hst3 := own_str ho15 (c := k15)
              have hst4 := run_str (P := Tryz.prog) (c := y.c) 51 9 5 Tryz.underlying51 Tryz.underlying5 Tryz.underlying9 (HYO.out.b.below HQ4.out.below (Nat.le_refl _))
              clear ho15 hb15 hk15 HQ3 HG3 HR3 HKY3 HGU
              go_wp2_with fail
              rw [← HA2E.out]
              go_roundg (n2 - (i + 1))
              case measure => exact meas_s hgk2.out HIN.out
              case rel => exact ⟨i + 1, by first | rfl | rw [wi], hid rfl, hid HIN.out, HQ4, HG4, HR4⟩
            · rw [ge]
              clear ho15 hb15 hk15 HQ3 HG3 HR3 HKY3 HGU
              go_wp2_with fail
              rw [← HA2E.out]
              go_roundg (n2 - (i + 1))
              case measure => exact meas_s hgk2.out HIN.out
              case rel => exact ⟨i + 1, by first | rfl | rw [wi], hid rfl, hid HIN.out, HQ4, HG4, HR4⟩
        · have hin : i = n2 := by have := hi.out; omega
          subst hin
          have i2 : ¬ (i : Int) < (i : Int) := fun e => absurd e (Int.lt_irrefl _)
          clear hge2 hi hgk2
          go_wp2_with fail
          go_roundg (n - (j + 1))
          case measure => exact meas_s hgk.out HJN.out
          case rel => exact ⟨j + 1, d2, v2, c2, L2, A2, i, cc2, h2, X', RA', m', rc', vs', rfl, rfl, by first | rfl | rw [wj], hid rfl, hid HJN.out, hSI2, hHv2, hln2, HFIN, hmm, hDx, hid (On.drop hQ.out), hR, hHO2, hG⟩
      · rw [hbd2.out.2.1] at hx; cases hx
      · obtain rfl := hp0 (by rw [ho]; decide)
        rw [ho]
        clear ho7 hp0 hVq hRq hHq hb7 HOP ho
        go_wp2_with fail
        go_loopg [141] n2 (fun kk iv wr => ∃ i : Nat, iv = .int .i64 (i : Int) ∧ Hid (kk = n2 - i) ∧ Hid (i ≤ n2) ∧ Hid (On w (TS gd d2 gv v2 gc c2 gs 40 L2 false) wr (fun b => X' b ∨ A2.map (·.block) = some b)) ∧ Hid (RwG wr X' RA' m' rc' vs') ∧ Hid (HRow wr w.heap.size A2 n2 cc2 h2))
        case atStart => exact ⟨0, rfl, hid rfl, hid (Nat.zero_le _), HV7, HR7, HH7⟩
        case round =>
        obtain ⟨i, rfl, hgk2, hi, hQ, hG, hR⟩ := hrel
        clear HV7 HR7 HH7
        rename World => wr
        rcases Nat.lt_or_ge i n2 with hlt2 | hge2
        · have HIN := hid hlt2
          have hih : i < h2.length := by rw [hln2.out]; exact hlt2
          have i1 : (0 : Int) ≤ (i : Int) := Int.natCast_nonneg i
          have i2 : (i : Int) < (n2 : Int) := Int.ofNat_lt.2 hlt2
          have i3 : decide ((i : Int) < (n2 : Int)) = true := decide_eq_true i2
          have i4 : decide (i < n2) = true := decide_eq_true hlt2
          have wi : wrap64 ((i : Int) + 1) = ((i + 1 : Nat) : Int) := sl_wi HN750.out hlt2
          have HYO := hid (hHO2.out _ (List.getElem_mem hih))
          have HGY := hid (HGET.out _ (List.getElem_mem hih))
          obtain ⟨b2, hA8, hbl2, hr2⟩ := hR.out.elem hln2.out hih
          generalize h2[i] = y at *
          obtain ⟨c0', c1', c2', c3, c4, c5⟩ := range6 hr2
          have hb13 : Below wr.heap.size wr (wr.alloc (.cells #[.string (str (y).nm), .int .i64 (y).k.t, .int .i64 (y).k.c, .int .i64 (y).k.e, .slice (y).A (y).n (y).c, .bool (y).dr] 94)) := (Below.refl _ _).alloc (Nat.le_refl _) _
          have HKY := hid (Blk.new wr 94 #[.string (str (y).nm), .int .i64 (y).k.t, .int .i64 (y).k.c, .int .i64 (y).k.e, .slice (y).A (y).n (y).c, .bool (y).dr])
          obtain ⟨y0, y1, y2', y3, y4, y5⟩ := hcB_cells (x := y) HKY.out
          have HQ2 := hid (hQ.out.go (TS.ok _ _ _ _ _ _ _ _ _ _) hb13)
          have HG2 := hid (hG.out.stay (hQ.out.stay hb13 |>.less fun x hx => .inl hx))
          have HR2 : Hid (HRow (wr.alloc (.cells #[.string (str (y).nm), .int .i64 (y).k.t, .int .i64 (y).k.c, .int .i64 (y).k.e, .slice (y).A (y).n (y).c, .bool (y).dr] 94)) w.heap.size A2 n2 cc2 h2) := hid (World.ownsRow.below hR.out hb13)
          have HGT := hid (sget_on (C := fun P => P) Foc.self (fun _ h => h) HQ2.out y.nm HYO.out.nm HWF.out)
          clear hlt2 hih hbl2 hr2 hb13 hQ hG hR
          rw [hA8]
          have HA2E := hid hA8
          clear hA8
          go_wp2_with fail
          clear c0' c1' c2' c3 c4 c5 y0 y1 y2' y3 y4 y5
          refine HGT.out.mono ?_
          rintro e w14 ⟨A14, m14, k14, rfl, ho14, -, hb14⟩
          have HQ3 := hid (HQ2.out.go (TS.ok _ _ _ _ _ _ _ _ _ _) hb14)
          have HG3 := hid (HG2.out.stay (HQ2.out.stay hb14 |>.less fun x hx => .inl hx))
          have HR3 : Hid (HRow w14 w.heap.size A2 n2 cc2 h2) := hid (World.ownsRow.below HR2.out hb14)
          have HKY3 := hid (HKY.out.keep (hb14.block _ HKY.out.lt))
          obtain ⟨y0, y1, y2', y3, y4, y5⟩ := hcB_cells (x := y) HKY3.out
          rcases HGY.out with ⟨ge, gb⟩ | ge
          · rw [ge]
            rw [gb] at ho14
            have hst1 := own_str ho14 (c := k14)
            have hst2 := run_str (P := Tryz.prog) (c := y.c) 51 9 5 Tryz.underlying51 Tryz.underlying5 Tryz.underlying9 (HYO.out.b.below HQ3.out.below (Nat.le_refl _))
            clear ho14 hb14 HKY HQ2 HG2 HR2 HGT ge gb
            go_wp2_with fail
            refine (sget_nil _ _).mono ?_
            rintro e wz ⟨rfl, rfl⟩
            go_wp2_with fail
            rw [← HA2E.out]
            go_roundg (n2 - (i + 1))
            case measure => exact meas_s hgk2.out HIN.out
            case rel => exact ⟨i + 1, by first | rfl | rw [wi], hid rfl, hid HIN.out, HQ3, HG3, HR3⟩
          · rw [ge]
            clear ho14 hb14 HKY HQ2 HG2 HR2 HGT ge
            go_wp2_with fail
            refine (sget_nil _ _).mono ?_
            rintro e wz ⟨rfl, rfl⟩
            go_wp2_with fail
            rw [← HA2E.out]
            go_roundg (n2 - (i + 1))
            case measure => exact meas_s hgk2.out HIN.out
            case rel => exact ⟨i + 1, by first | rfl | rw [wi], hid rfl, hid HIN.out, HQ3, HG3, HR3⟩
        · have hin : i = n2 := by have := hi.out; omega
          subst hin
          have i2 : ¬ (i : Int) < (i : Int) := fun e => absurd e (Int.lt_irrefl _)
          clear hge2 hi hgk2
          go_wp2_with fail
          go_roundg (n - (j + 1))
          case measure => exact meas_s hgk.out HJN.out
          case rel => exact ⟨j + 1, d2, v2, c2, L2, A2, i, cc2, h2, X', RA', m', rc', vs', rfl, rfl, by first | rfl | rw [wj], hid rfl, hid HJN.out, hSI2, hHv2, hln2, HFIN, hmm, hDx, hQ, hR, hHO2, hG⟩
  · have hjn : j = n := by have := hj.out; omega
    subst hjn
    have j2 : ¬ (j : Int) < (j : Int) := by omega
    clear hge hj hgk
    go_wp2
    go_ret
    exact ⟨rfl, hV.out.below⟩
end Go.Proofs.YtdkbpjkoiegflaaGreat
