/- The walk of StoreRooms: it answers true, whatever the input. -/
import Derived.Test.YtdkbpjkoiegflaaGreatStSame
import Derived.Test.YtdkbpjkoiegflaaGreatStOpL
namespace Go.Proofs.YtdkbpjkoiegflaaGreat
open Go.RowKit

/-- The blocks of the first k blobs. -/
def sbs (L : List Bb) (k : Nat) : List Value := (List.range 40).map fun (i : Nat) => Value.bool ((L.take k).any fun x => decide (x.b = (i : Int)))
theorem sbs_len (L : List Bb) (k : Nat) : (sbs L k).length = 40 := by simp [sbs]
theorem sbs_at (L : List Bb) (k : Nat) {i : Nat} (h : i < 40) : (sbs L k)[i]? = some (Value.bool ((L.take k).any fun x => decide (x.b = (i : Int)))) := by
  simp [sbs, h]
theorem sbs_step {L : List Bb} {k : Nat} (hk : k < L.length) {i : Nat} (hi : L[k].b = (i : Int)) (_h40 : i < 40) : sbs L (k + 1) = (sbs L k).set i (.bool true) := by
  refine List.ext_getElem (by simp [sbs]) fun j h1 h2 => ?_
  rw [List.getElem_set]
  simp only [sbs, List.getElem_map, List.getElem_range]
  rw [List.take_add_one, List.getElem?_eq_getElem hk]
  simp only [Option.toList_some, List.any_append, List.any_cons, List.any_nil, Bool.or_false]
  by_cases h3 : i = j
  · subst h3; rw [if_pos rfl, hi]; simp
  · rw [if_neg h3, hi]
    have : decide (((i : Nat) : Int) = ((j : Nat) : Int)) = false := by simp; omega
    rw [this, Bool.or_false]
theorem rm_wk {k m : Nat} (h31 : m ≤ 31) (h : k < m) : wrap64 ((k : Int) + 1) = ((k + 1 : Nat) : Int) := by unfold wrap64; omega
theorem rm_25 {j : Nat} (h : ¬ 25 ≤ j) : j + 1 ≤ 25 := by omega
theorem rm_w1 {K m : Nat} (h31 : m ≤ 31) (h : K < m) : wrap64 (((K + 1 : Nat) : Int) - 1) = (K : Int) := by unfold wrap64; omega
theorem rm_pos {k m : Nat} (h0 : 0 < k) (hk : k < m) (h31 : m ≤ 31) : ∃ K : Nat, k = K + 1 ∧ K < m ∧ decide ((0 : Int) < (k : Int)) = true ∧ decide (0 < k) = true ∧ wrap64 ((k : Int) - 1) = (K : Int) ∧ IntKind.i64.wrap ((k : Int) - 1) = (K : Int) ∧ (0 : Int) ≤ (K : Int) ∧ (K : Int) < (m : Int) :=
  ⟨k - 1, by omega, by omega, by simp; omega, decide_eq_true h0, by unfold wrap64; omega, by rw [IntWalk.i64_in _ (by omega)]; omega, by omega, by omega⟩
theorem rm_i1 {i : Nat} (h : 2 ≤ i) : decide ((i : Int) < 2) = false := by simp; omega
theorem rm_i2 {i N : Nat} (h : i < N) : decide ((N : Int) ≤ (i : Int)) = false := by simp; omega
theorem rm_i4 {i N : Nat} (h : i < N) (hN : N ≤ 31) : (i : Int) < 40 := by omega
theorem rm_sum {f m N : Nat} (h : f + m + 2 = N) (hN : N ≤ 31) : ∃ g : Nat, wrap64 ((f : Int) + (m : Int)) = (g : Int) ∧ wrap64 ((g : Int) + 2) = (N : Int) ∧ m ≤ 31 := ⟨f + m, by unfold wrap64; omega, by unfold wrap64; omega, by omega⟩
/-- What a blob of a store is, among those ahead of it. -/
theorem rm_fact {L : List Bb} (h : Rgt L) {n : Nat} (hb : ∀ x ∈ L, x.b < (n : Int)) (_h40 : n ≤ 40) {k : Nat} (hk : k < L.length) :
    ∃ i : Nat, L[k].b = (i : Int) ∧ 2 ≤ i ∧ i < n ∧ (sbs L k)[i]? = some (.bool false) ∧ (0 < k → Op.bytesLess (L[k - 1]'(by omega)).nm L[k].nm = true) := by
  have hm := List.getElem_mem hk
  have h1 := (h.1 _ hm).2.2.2.2.2.2.2.1
  have h2 := hb _ hm
  refine ⟨L[k].b.toNat, by omega, by omega, by omega, ?_, fun hp => ?_⟩
  · rw [sbs_at L k (by omega)]
    congr 2
    rw [List.any_eq_false]
    intro x hx
    obtain ⟨j, hj, rfl⟩ := List.mem_take_iff_getElem.1 hx
    have := (List.pairwise_iff_getElem.1 h.2.1) j k (by omega) hk (by omega)
    have h3 := this.1
    simp
    omega
  · exact ((List.pairwise_iff_getElem.1 h.2.1) (k - 1) k (by omega) hk (by omega)).2
set_option maxRecDepth 100000 in
set_option maxHeartbeats 16000000 in
theorem walkStoreRooms (B0 : Int) (A : Option Addr) (n c0 : Nat) (w : World) (hB0 : (Lit.int .u8 B0).wf = true) (hops : OpsT w w.heap.size A n ∧ n ≤ 9223372036854775807) :
    Calls Tryz.prog 8 #[.int .u8 B0, .slice A n c0] w fun e w' => e = .returned (.bool true) ∧ Below w.heap.size w w' := by
  have HOPS := hid hops.1
  have HN := hid hops.2
  have hb0 := wf_u8 hB0
  clear hops hB0
  obtain ⟨r, hr⟩ : ∃ r : Nat, r = (B0 % 30).toNat := ⟨_, rfl⟩
  obtain ⟨N, hN⟩ : ∃ N : Nat, N = 2 + r := ⟨_, rfl⟩
  have q1 : B0 % 30 = (r : Int) := by omega
  have q2 : Int.tmod B0 30 = (r : Int) := by rw [Int.tmod_eq_emod_of_nonneg (by omega)]; exact q1
  have q3 : wrap64 (2 + (r : Int)) = (N : Int) := by unfold wrap64; omega
  have q4 : IntKind.i64.wrap (2 + (r : Int)) = (N : Int) := by rw [IntWalk.i64_in _ (by omega)]; omega
  have q5 : wrap64 (r : Int) = (r : Int) := by unfold wrap64; omega
  have HNN : Hid (2 ≤ N ∧ N ≤ 31) := hid (by omega)
  clear hr hN hb0
  go_enter Tryz.func8, Tryz.ntmps8
  go_wp2_with fail
  refine (stfirst_c w).mono ?_
  rintro e w1 ⟨rfl, hb1⟩
  have HB1 := hid hb1
  clear hb1
  go_wp2_with fail
  clear q1 q2 q3 q4 q5
  refine (dnew_on w w1 HB1.out N (by have := HNN.out; omega) (by have := HNN.out; omega)).mono ?_
  rintro e w2 ⟨gd, rfl, hv2, -⟩
  have HV2 := hid hv2
  clear hv2 HB1
  go_wp2_with fail
  refine (vnew_on HV2.out).mono ?_
  rintro e w3 ⟨gv, rfl, hv3, -⟩
  have HV3 := hid (tc_new hv3).1
  clear hv3 HV2
  go_wp2_with fail
  generalize w3.heap.size = gc at *
  generalize w3.alloc (.cells #[.int .i64 0, .int .i64 0] 33) = w4 at *
  refine (sopen_on Foc.self (fun _ h => h) HV3.out (by decide) (by decide)).mono ?_
  rintro e w5 ⟨pp, rfl, hb5, -, ho5⟩
  have HSI0 : Hid (SI (St.new N) Va.new ⟨0, 0⟩ [] false) := hid (SI.init HNN.out.1 (by have := HNN.out; omega))
  obtain ⟨hz, hzL⟩ := so_new (n := N) HNN.out.1
  obtain ⟨gs, G5, rfl, hs5, hg5⟩ := ho5 hz
  rw [hz]
  rw [hzL] at hs5
  have HV5 : Hid (On w (TS gd (St.new N) gv Va.new gc ⟨0, 0⟩ gs N [] false) w5 (fun _ => False)) := hid ((HV3.out.with_ (TC.ok _ _ _ _ _ _) hs5 hb5 hg5).less (fun x hx => hx.elim))
  clear HV3 hs5 hg5 hb5 ho5 hz hzL
  go_wp2_with fail
  go_loopg [43] n (fun kk iv w2 => ∃ (j : Nat) (d : St) (v : Va) (c : Ce) (L : List Bb) (hv : List Ch), iv = .int .i64 (j : Int) ∧ Hid (kk = n - j) ∧ Hid (j ≤ n) ∧ Hid (SI d v c L false) ∧ Hid (Hv v L hv) ∧
    Hid (d.n = N ∧ d.lim = none ∧ d.W.length ≤ 30 * j ∧ v.L.length ≤ 30 * j ∧ c.ver ≤ j ∧ j ≤ 25) ∧ Hid (On w (TS gd d gv v gc c gs N L false) w2 (fun _ => False)))
  case atStart => exact ⟨0, _, _, _, [], [], rfl, hid (by omega), hid (Nat.zero_le _), HSI0, hid (Hv.init _), hid ⟨rfl, rfl, Nat.zero_le _, Nat.zero_le _, Nat.zero_le _, by omega⟩, HV5⟩
  case round =>
  obtain ⟨j, d, v, c, L, hv, rfl, hgk, hj, hSI, hHv, hbd, hV⟩ := hrel
  clear HV5
  rename World => w2
  rcases Nat.lt_or_ge j n with hlt | hge
  · have HJN := hid hlt
    have j1 : (0 : Int) ≤ (j : Int) := by omega
    have j2 : (j : Int) < (n : Int) := by omega
    have j3 : decide ((j : Int) < (n : Int)) = true := by simpa using hlt
    have j4 : decide (j < n) = true := by simpa using hlt
    have wj : wrap64 ((j : Int) + 1) = ((j + 1 : Nat) : Int) := by have := hbd.out; unfold wrap64; omega
    obtain ⟨b, off, o, rfl, hbl, hR0, hO0⟩ := HOPS.out j hlt
    have HO := hid hO0
    have hr0 := rangeAt_keep hR0 (hV.out.below.block b hbl)
    obtain ⟨c0', c1', c2, c3, c4, c5, c6, c7, c8⟩ := range9 hr0
    have hb3 : Below w2.heap.size w2 (w2.alloc (.cells #[.int .i64 (o).kind, .int .i64 (o).i, .int .i64 (o).fr, .slice (o).LA (o).Ln (o).Lc, .slice (o).BA (o).Bn (o).Bc, .slice (o).KA (o).Kn (o).Kc, .int .i64 (o).k.t, .int .i64 (o).k.c, .int .i64 (o).k.e] 56)) := (Below.refl _ _).alloc (Nat.le_refl _) _
    have HKB := hid (Blk.new w2 56 #[.int .i64 (o).kind, .int .i64 (o).i, .int .i64 (o).fr, .slice (o).LA (o).Ln (o).Lc, .slice (o).BA (o).Bn (o).Bc, .slice (o).KA (o).Kn (o).Kc, .int .i64 (o).k.t, .int .i64 (o).k.c, .int .i64 (o).k.e])
    obtain ⟨x0, x1, x2, x3, x4, x5, x6, x7, x8⟩ := opB_cells (o := o) HKB.out
    have HV3 := hid ((hV.out.add (TS.ok _ _ _ _ _ _ _ _ _ _) hb3 (Y := fun x => x = w2.heap.size) (fun x hx => by subst hx; simp)))
    clear hlt hbl hR0 hO0 hr0 hb3 hV
    by_cases h20 : 25 ≤ j
    · have m1 : decide ((25 : Int) ≤ (j : Int)) = true := by simp; omega
      have m2 : decide (25 ≤ j) = true := by simpa using h20
      clear h20
      go_wp2
      go_ret
      exact ⟨rfl, HV3.out.below⟩
    have m1 : decide ((25 : Int) ≤ (j : Int)) = false := by simp; omega
    have m2 : decide (25 ≤ j) = false := by simp; omega
    have HJ20 := hid h20
    clear h20
    have hlo := long_c o (w2.alloc (.cells #[.int .i64 (o).kind, .int .i64 (o).i, .int .i64 (o).fr, .slice (o).LA (o).Ln (o).Lc, .slice (o).BA (o).Bn (o).Bc, .slice (o).KA (o).Kn (o).Kc, .int .i64 (o).k.t, .int .i64 (o).k.c, .int .i64 (o).k.e] 56)) w.heap.size (HO.out.below HV3.out.below) HV3.out.below.size
    go_wp2_with fail
    clear m1 m2
    refine hlo.mono ?_
    rintro e w4 ⟨z, rfl, hb4, hz⟩
    have HV4 := hid (HV3.out.go (TS.ok _ _ _ _ _ _ _ _ _ _) hb4)
    have HK4 := hid (HKB.out.keep (hb4.block _ HKB.out.lt))
    clear hlo hb4 HKB HV3 x0 x1 x2 x3 x4 x5 x6 x7 x8 c0' c1' c2 c3 c4 c5 c6 c7 c8
    rcases hz with rfl | ⟨hz, hsm⟩
    · go_wp2
      go_ret
      exact ⟨rfl, HV4.out.below⟩
    have m1 : decide ((1000 : Int) ≤ z) = false := by simp; omega
    have m2 : ¬ (1000 : Int) ≤ z := by omega
    have HSM := hid hsm
    generalize w2.heap.size = bo at *
    clear hz hsm
    go_wp2_with fail
    clear m1 m2
    refine (slist_on (ts_s gd d gv v gc c) HV4.out (rise_of hSI.out.rg) (by have := hSI.out.rg.2.2; omega) (fun x hx => by have := (hSI.out.rg.1 x hx).1.2; unfold maxLen; omega)).mono ?_
    rintro e w5 ⟨A5, k5, rfl, hr5, hb5⟩
    have HV5 : Hid (On w (TS gd d gv v gc c gs N L false) w5 (fun b => (False ∨ b = bo) ∨ A5.map (·.block) = some b)) := hid (On.row HV4.out (TS.ok _ _ _ _ _ _ _ _ _ _) hb5 hr5)
    have HR5 := hid hr5
    have HK5 := hid (HK4.out.keep (hb5.block _ HK4.out.lt))
    clear hb5 hr5 HV4 HK4
    obtain ⟨x0, x1, x2, x3, x4, x5, x6, x7, x8⟩ := opB_cells (o := o) HK5.out
    have HLL : Hid (o.l.length = o.Ln) := hid HO.out.l.len
    have HCM := hid (SI.commit (s := ⟨d, v, c, L, false⟩) (l := o.l.map Hc.ch) hSI.out rfl hHv.out (by show v.L.length + _ ≤ _; rw [List.length_map, HLL.out]; have := hbd.out; have := HSM.out.l; omega) (fun x hx => by
      obtain ⟨y, hy, rfl⟩ := List.mem_map.1 hx
      obtain ⟨i, hi, rfl⟩ := List.mem_iff_getElem.1 hy
      exact (HO.out.l.el i hi).choose_spec.choose_spec.2.2.2.2.k))
    have hcm := commit_on (C := fun P => P) (q := o.Lc) Foc.self HV5.out ((HO.out.below HV5.out.below).l.mono fun b hb _ => .inr hb) (by have := HSM.out.l; omega) hSI.out.rg hSI.out.wf (fun x hx => by have := hSI.out.bl x hx; rw [show d.n = N from hbd.out.1] at this; exact this) hbd.out.1 (by show d.W.length ≤ _; have := hbd.out; omega) (by have := hbd.out; omega) (by have := hbd.out; omega)
    have HLN : Hid ((o.l.map Hc.ch).length ≤ 20) := hid (by rw [List.length_map, HLL.out]; exact HSM.out.l)
    generalize hcs : cmS ⟨d, v, c, L, false⟩ (o.l.map Hc.ch) = S at *
    clear hcs
    obtain ⟨E, d', v', c', L', dn'⟩ := S
    have HCO := hid hcm
    clear hcm
    go_wp2_with fail
    refine HCO.out.mono ?_
    rintro e w6 ⟨rfl, hv6, hst6⟩
    have HDN : Hid (d'.lim = none ∧ dn' = false) := hid (HCM.out.1.on hbd.out.2.1)
    have hdn := HDN.out.2
    rw [hdn] at hv6
    have HV6 : Hid (On w (TS gd d' gv v' gc c' gs N L' false) w6 (fun b => (False ∨ b = bo) ∨ A5.map (·.block) = some b)) := hid hv6
    have HR6 : Hid (BRow 90 w6 _ A5 k5 L) := hid (HR5.out.keep fun b hb => hst6.2 b (.inr hb))
    clear hv6 hst6 hdn HV5 HR5 HK5 HCO x0 x1 x2 x3 x4 x5 x6 x7 x8
    have HSI8 : Hid (SI d' v' c' L' false) := hid HCM.out.1.si
    have HVV : Hid (v'.L.length ≤ 30 * (j + 1) ∧ d'.n = N ∧ d'.lim = none ∧ d'.W.length ≤ 30 * (j + 1) ∧ c'.ver ≤ j + 1) := hid (by
      obtain ⟨E', h1, h2⟩ := HCM.out.1.V
      have h3 := HCM.out.1.n
      have h4 := HCM.out.1.Wl
      have h5 := HLN.out
      have h6 := hbd.out
      have h8 := HDN.out
      have h7 : c'.ver ≤ c.ver + 1 := by
        by_cases hE : E = 0
        · have := (HCM.out.1.ok hE).2; dsimp only at this; omega
        · have := (HCM.out.1.er hE).2; dsimp only at this; rw [this]; omega
      dsimp only at h1 h3 h4
      rw [h1, List.length_append]
      clear wj
      refine ⟨by omega, h3.trans h6.1, h8.1, by omega, by omega⟩)
    have HHV8 : Hid (∃ hv', Hv v' L' hv') := hid ⟨_, HCM.out.1.hv⟩
    have HER : Hid (E ≠ 0 → L' = L) := hid (fun h => (HCM.out.1.er h).1)
    have HFR : Hid ((frs N L').length + L'.length + 2 = N) := hid (frs_len HNN.out.1 HSI8.out.rg (fun x hx => by have := HSI8.out.bl x hx; rw [show d'.n = N from HVV.out.2.1] at this; exact this))
    clear HCM HDN hSI hHv hbd
    go_wp2_with fail
    refine (slist_on (ts_s gd d' gv v' gc c') HV6.out (rise_of HSI8.out.rg) (by have := HSI8.out.rg.2.2; omega) (fun x hx => by have := (HSI8.out.rg.1 x hx).1.2; unfold maxLen; omega)).mono ?_
    rintro e w7 ⟨A7, k7, rfl, hr7, hb7⟩
    have HV7 : Hid (On w (TS gd d' gv v' gc c' gs N L' false) w7 (fun b => A7.map (·.block) = some b)) := hid ((On.row HV6.out (TS.ok _ _ _ _ _ _ _ _ _ _) hb7 hr7).less fun x hx => .inr hx)
    have HR7 : Hid (BRow 90 w7 _ A7 k7 L') := hid hr7
    have HP7 : Hid (BRow 90 w7 _ A5 k5 L) := hid (World.ownsRow.below HR6.out hb7)
    clear hb7 hr7 HV6 HR6
    obtain ⟨m, hm⟩ : ∃ m, L'.length = m := ⟨_, rfl⟩
    obtain ⟨f, hf⟩ : ∃ f, (frs N L').length = f := ⟨_, rfl⟩
    have hfr := HFR.out
    rw [hm, hf] at hfr
    obtain ⟨g, g1, g2, hm31⟩ := rm_sum hfr HNN.out.2
    have HM31 := hid hm31
    have HML := hid hm
    have HFL := hid hf
    clear hfr hm hf HFR hm31
    rw [HML.out]
    by_cases hE : E = 0
    · subst hE
      clear HER
      go_wp2_with fail
      refine (sfree_on (ts_s gd d' gv v' gc c') HV7.out HNN.out.1).mono ?_
      rintro e w9 ⟨rfl, rfl⟩
      rw [HFL.out]
      go_wp2_with fail
      clear g1 g2
      have hbq : Below w7.heap.size w7 (w7.alloc (.cells #[.bool false, .bool false, .bool false, .bool false, .bool false, .bool false, .bool false, .bool false, .bool false, .bool false, .bool false, .bool false, .bool false, .bool false, .bool false, .bool false, .bool false, .bool false, .bool false, .bool false, .bool false, .bool false, .bool false, .bool false, .bool false, .bool false, .bool false, .bool false, .bool false, .bool false, .bool false, .bool false, .bool false, .bool false, .bool false, .bool false, .bool false, .bool false, .bool false, .bool false] 98)) := (Below.refl _ _).alloc (Nat.le_refl _) _
      have HLA : Hid (∀ b, A7.map (·.block) = some b → b < w7.heap.size) := hid (fun b hb => own_lt HR7.out b hb)
      have HQX : Hid (On w (TS gd d' gv v' gc c' gs N L' false) (w7.alloc (.cells #[.bool false, .bool false, .bool false, .bool false, .bool false, .bool false, .bool false, .bool false, .bool false, .bool false, .bool false, .bool false, .bool false, .bool false, .bool false, .bool false, .bool false, .bool false, .bool false, .bool false, .bool false, .bool false, .bool false, .bool false, .bool false, .bool false, .bool false, .bool false, .bool false, .bool false, .bool false, .bool false, .bool false, .bool false, .bool false, .bool false, .bool false, .bool false, .bool false, .bool false] 98)) (fun b => A7.map (·.block) = some b ∨ b = w7.heap.size)) := hid (HV7.out.add (TS.ok _ _ _ _ _ _ _ _ _ _) hbq (Y := fun x => x = w7.heap.size) (fun x hx => by subst hx; simp))
      have HSX : Hid (Blk (w7.alloc (.cells #[.bool false, .bool false, .bool false, .bool false, .bool false, .bool false, .bool false, .bool false, .bool false, .bool false, .bool false, .bool false, .bool false, .bool false, .bool false, .bool false, .bool false, .bool false, .bool false, .bool false, .bool false, .bool false, .bool false, .bool false, .bool false, .bool false, .bool false, .bool false, .bool false, .bool false, .bool false, .bool false, .bool false, .bool false, .bool false, .bool false, .bool false, .bool false, .bool false, .bool false] 98)) w7.heap.size 98 (sbs L' 0).toArray) := hid (Blk.new _ _ _)
      have HPX : Hid (BRow 90 (w7.alloc (.cells #[.bool false, .bool false, .bool false, .bool false, .bool false, .bool false, .bool false, .bool false, .bool false, .bool false, .bool false, .bool false, .bool false, .bool false, .bool false, .bool false, .bool false, .bool false, .bool false, .bool false, .bool false, .bool false, .bool false, .bool false, .bool false, .bool false, .bool false, .bool false, .bool false, .bool false, .bool false, .bool false, .bool false, .bool false, .bool false, .bool false, .bool false, .bool false, .bool false, .bool false] 98)) w6.heap.size A7 k7 L') := hid (World.ownsRow.below HR7.out hbq)
      have HSN : Hid (w.heap.size ≤ w7.heap.size) := hid HV7.out.below.size
      clear HV7 HR7 hbq
      generalize w7.heap.size = sn at *
      generalize w7.alloc (.cells #[.bool false, .bool false, .bool false, .bool false, .bool false, .bool false, .bool false, .bool false, .bool false, .bool false, .bool false, .bool false, .bool false, .bool false, .bool false, .bool false, .bool false, .bool false, .bool false, .bool false, .bool false, .bool false, .bool false, .bool false, .bool false, .bool false, .bool false, .bool false, .bool false, .bool false, .bool false, .bool false, .bool false, .bool false, .bool false, .bool false, .bool false, .bool false, .bool false, .bool false] 98) = w10 at *
      go_loopg [83] m (fun kk iv wr => ∃ k : Nat, iv = .int .i64 (k : Int) ∧ Hid (kk = m - k) ∧ Hid (k ≤ m) ∧ Hid (On w (TS gd d' gv v' gc c' gs N L' false) wr (fun b => A7.map (·.block) = some b ∨ b = sn)) ∧ Hid (BRow 90 wr w6.heap.size A7 k7 L') ∧ Hid (Blk wr sn 98 (sbs L' k).toArray))
      case atStart => exact ⟨0, rfl, hid rfl, hid (Nat.zero_le _), HQX, HPX, HSX⟩
      case round =>
      obtain ⟨k, rfl, hgk2, hk, hQ, hP, hS⟩ := hrel
      clear HQX HPX HSX
      rename World => wr
      rcases Nat.lt_or_ge k m with hlt2 | hge2
      · have HKM := hid hlt2
        have hil : k < L'.length := by rw [HML.out]; exact hlt2
        have k1 : (0 : Int) ≤ (k : Int) := by omega
        have k2 : (k : Int) < (m : Int) := by omega
        have k3 : decide ((k : Int) < (m : Int)) = true := by simpa using hlt2
        have k4 : decide (k < m) = true := decide_eq_true hlt2
        have wk : wrap64 ((k : Int) + 1) = ((k + 1 : Nat) : Int) := rm_wk HM31.out hlt2
        obtain ⟨i, hi1, hi2, hi3, hi4, hi5⟩ := rm_fact HSI8.out.rg (n := N) (fun x hx => by have := HSI8.out.bl x hx; rw [show d'.n = N from HVV.out.2.1] at this; exact this) (by have := HNN.out; omega) hil
        have HST := hid (sbs_step hil hi1 (by have := HNN.out; omega))
        obtain ⟨b7, hA7, hbl, hr⟩ := hP.out.elem hil
        have HLB := hid (HLA.out b7 (by rw [hA7]; rfl))
        have HPV := hid hi5
        generalize hxk : L'[k] = x at *
        obtain ⟨c0', c1', c2, c3, c4, c5, c6, c7, c8, c9, c10⟩ := range11 hr
        rw [hi1] at c4
        have hcs := hS.out.cell i
        have hfr := hS.out.frozen i
        rw [List.getElem?_toArray, hi4] at hcs
        have i1 : decide ((i : Int) < 2) = false := rm_i1 hi2
        have i2 : decide ((N : Int) ≤ (i : Int)) = false := rm_i2 hi3
        have i1n : decide (i < 2) = false := decide_eq_false (Nat.not_lt.2 hi2)
        have i2n : decide (N ≤ i) = false := decide_eq_false (Nat.not_le.2 hi3)
        have i3 : (0 : Int) ≤ (i : Int) := by omega
        have i4 : (i : Int) < 40 := rm_i4 hi3 HNN.out.2
        have HBX := hid (Blk.new wr 90 (#[.string (str x.nm), .int .i64 x.k.t, .int .i64 x.k.c, .int .i64 x.k.e, .int .i64 (i : Int), .int .i64 x.p.k.t, .int .i64 x.p.k.c, .int .i64 x.p.k.e, .int .i64 x.p.id, .int .i64 x.p.ver, .int .i64 x.sz]))
        have hbx : Below wr.heap.size wr (wr.alloc (.cells (#[.string (str x.nm), .int .i64 x.k.t, .int .i64 x.k.c, .int .i64 x.k.e, .int .i64 (i : Int), .int .i64 x.p.k.t, .int .i64 x.p.k.c, .int .i64 x.p.k.e, .int .i64 x.p.id, .int .i64 x.p.ver, .int .i64 x.sz]) 90)) := (Below.refl _ _).alloc (Nat.le_refl _) _
        have HQ2 := hid (hQ.out.go (TS.ok _ _ _ _ _ _ _ _ _ _) hbx)
        have HP2 : Hid (BRow 90 (wr.alloc (.cells (#[.string (str x.nm), .int .i64 x.k.t, .int .i64 x.k.c, .int .i64 x.k.e, .int .i64 (i : Int), .int .i64 x.p.k.t, .int .i64 x.p.k.c, .int .i64 x.p.k.e, .int .i64 x.p.id, .int .i64 x.p.ver, .int .i64 x.sz]) 90)) w6.heap.size A7 k7 L') := hid (World.ownsRow.below hP.out hbx)
        have HS2 := hid (hS.out.keep (hbx.block _ hS.out.lt))
        have x0 : (wr.alloc (.cells (#[.string (str x.nm), .int .i64 x.k.t, .int .i64 x.k.c, .int .i64 x.k.e, .int .i64 (i : Int), .int .i64 x.p.k.t, .int .i64 x.p.k.c, .int .i64 x.p.k.e, .int .i64 x.p.id, .int .i64 x.p.ver, .int .i64 x.sz]) 90)).cell? ⟨wr.heap.size, 0, none⟩ = some (.string (str x.nm)) := (HBX.out.cell 0).trans rfl
        have x4 : (wr.alloc (.cells (#[.string (str x.nm), .int .i64 x.k.t, .int .i64 x.k.c, .int .i64 x.k.e, .int .i64 (i : Int), .int .i64 x.p.k.t, .int .i64 x.p.k.c, .int .i64 x.p.k.e, .int .i64 x.p.id, .int .i64 x.p.ver, .int .i64 x.sz]) 90)).cell? ⟨wr.heap.size, 4, none⟩ = some (.int .i64 (i : Int)) := (HBX.out.cell 4).trans rfl
        have xs : (wr.alloc (.cells (#[.string (str x.nm), .int .i64 x.k.t, .int .i64 x.k.c, .int .i64 x.k.e, .int .i64 (i : Int), .int .i64 x.p.k.t, .int .i64 x.p.k.c, .int .i64 x.p.k.e, .int .i64 x.p.id, .int .i64 x.p.ver, .int .i64 x.sz]) 90)).cell? ⟨sn, i, none⟩ = some (.bool false) := by rw [World.cell?_of_block (hbx.block _ hS.out.lt)]; exact hcs
        subst hA7
        have s1 := str_list x.nm
        have hkk : w.heap.size ≤ sn ∧ sn < wr.heap.size := ⟨HSN.out, hS.out.lt⟩
        have HBB := hid hkk
        rcases Nat.eq_zero_or_pos k with h0 | h0
        · have t1 : decide ((0 : Int) < (k : Int)) = false := by rw [h0]; decide
          have t2 : decide (0 < k) = false := by rw [h0]; decide
          have HK0 := hid h0
          clear hlt2 hil hi1 hi2 hi3 hi4 hi5 hr hbl hxk hcs hQ hP hS HPV hbx h0 hkk
          go_wp2_with fail
          refine wp_region_held_drew (S := fun wx => wx.cell? ⟨wr.heap.size, 4, none⟩ = some (.int .i64 (i : Int)) ∧ wx.cell? ⟨wr.heap.size, 0, none⟩ = some (.string (str x.nm)) ∧ wx.cell? ⟨sn, i, none⟩ = some (.bool false)) (by kernel_rfl) ⟨x4, x0, xs⟩ (fun HS => ?_)
          refine wpAnyH_take (i := 0) (oi := ?oia0) (v := ?va0) ?hia0 (by kernel_rfl) (by kernel_rfl) (by kernel_rfl) ?hQa0 ?hya0 HS ?resta0
          case hia0 => simp only [List.getElem?_toArray, List.getElem?_cons_zero]; exact rfl
          case hQa0 => exact fun _ _ _ h => h
          case hya0 =>
            refine Or.inl ⟨by rfl, ?_⟩
            intro wS hSw
            go_simp
            try with_reducible rfl
          try simp only [Act.put, List.setIfInBounds_toArray, List.set_cons_zero, List.set_cons_succ]
          refine wpAnyH_take (i := 1) (oi := ?oia1) (v := ?va1) ?hia1 (by kernel_rfl) (by kernel_rfl) (by kernel_rfl) ?hQa1 ?hya1 HS ?resta1
          case hia1 => simp only [List.getElem?_toArray, List.getElem?_cons_succ, List.getElem?_cons_zero]; exact rfl
          case hQa1 => exact fun _ _ _ h => h
          case hya1 =>
            refine Or.inl ⟨by rfl, ?_⟩
            intro wS hSw
            obtain ⟨z4, z0, zs⟩ := hSw
            go_simp
            try with_reducible rfl
          try simp only [Act.put, List.setIfInBounds_toArray, List.set_cons_zero, List.set_cons_succ]
          refine wpAnyH_take (i := 2) (oi := ?oia2) (v := ?va2) ?hia2 (by kernel_rfl) (by kernel_rfl) (by kernel_rfl) ?hQa2 ?hya2 HS ?resta2
          case hia2 => simp only [List.getElem?_toArray, List.getElem?_cons_succ, List.getElem?_cons_zero]; exact rfl
          case hQa2 => exact fun _ _ _ h => h
          case hya2 =>
            refine Or.inl ⟨by rfl, ?_⟩
            intro wS hSw
            go_simp
            try with_reducible rfl
          try simp only [Act.put, List.setIfInBounds_toArray, List.set_cons_zero, List.set_cons_succ]
          refine wpAnyH_take (i := 3) (oi := ?oia3) (v := ?va3) ?hia3 (by kernel_rfl) (by kernel_rfl) (by kernel_rfl) ?hQa3 ?hya3 HS ?resta3
          case hia3 => simp only [List.getElem?_toArray, List.getElem?_cons_succ, List.getElem?_cons_zero]; exact rfl
          case hQa3 => exact fun _ _ _ h => h
          case hya3 =>
            refine Or.inl ⟨by rfl, ?_⟩
            intro wS hSw
            go_simp
            try with_reducible rfl
          try simp only [Act.put, List.setIfInBounds_toArray, List.set_cons_zero, List.set_cons_succ]
          refine wpAnyH_take (i := 4) (oi := ?oia4) (v := ?va4) ?hia4 (by kernel_rfl) (by kernel_rfl) (by kernel_rfl) ?hQa4 ?hya4 HS ?resta4
          case hia4 => simp only [List.getElem?_toArray, List.getElem?_cons_succ, List.getElem?_cons_zero]; exact rfl
          case hQa4 => exact fun _ _ _ h => h
          case hya4 =>
            refine Or.inl ⟨by rfl, ?_⟩
            intro wS hSw
            go_simp
            try with_reducible rfl
          try simp only [Act.put, List.setIfInBounds_toArray, List.set_cons_zero, List.set_cons_succ]
          refine wpAnyH_take (i := 5) (oi := ?oia5) (v := ?va5) ?hia5 (by kernel_rfl) (by kernel_rfl) (by kernel_rfl) ?hQa5 ?hya5 HS ?resta5
          case hia5 => simp only [List.getElem?_toArray, List.getElem?_cons_succ, List.getElem?_cons_zero]; exact rfl
          case hQa5 => exact fun _ _ _ h => h
          case hya5 =>
            refine Or.inl ⟨by rfl, ?_⟩
            intro wS hSw
            obtain ⟨z4, z0, zs⟩ := hSw
            go_simp
            try with_reducible rfl
          try simp only [Act.put, List.setIfInBounds_toArray, List.set_cons_zero, List.set_cons_succ]
          refine wpAnyH_take (i := 6) (oi := ?oia6) (v := ?va6) ?hia6 (by kernel_rfl) (by kernel_rfl) (by kernel_rfl) ?hQa6 ?hya6 HS ?resta6
          case hia6 => simp only [List.getElem?_toArray, List.getElem?_cons_succ, List.getElem?_cons_zero]; exact rfl
          case hQa6 => exact fun _ _ _ h => h
          case hya6 =>
            refine Or.inl ⟨by rfl, ?_⟩
            intro wS hSw
            go_simp
            try with_reducible rfl
          try simp only [Act.put, List.setIfInBounds_toArray, List.set_cons_zero, List.set_cons_succ]
          refine wpAnyH_take (i := 7) (oi := ?oia7) (v := ?va7) ?hia7 (by kernel_rfl) (by kernel_rfl) (by kernel_rfl) ?hQa7 ?hya7 HS ?resta7
          case hia7 => simp only [List.getElem?_toArray, List.getElem?_cons_succ, List.getElem?_cons_zero]; exact rfl
          case hQa7 => exact fun _ _ _ h => h
          case hya7 =>
            refine Or.inl ⟨by rfl, ?_⟩
            intro wS hSw
            go_simp
            try with_reducible rfl
          try simp only [Act.put, List.setIfInBounds_toArray, List.set_cons_zero, List.set_cons_succ]
          refine wpAnyH_take (i := 8) (oi := ?oia8) (v := ?va8) ?hia8 (by kernel_rfl) (by kernel_rfl) (by kernel_rfl) ?hQa8 ?hya8 HS ?resta8
          case hia8 => simp only [List.getElem?_toArray, List.getElem?_cons_succ, List.getElem?_cons_zero]; exact rfl
          case hQa8 => exact fun _ _ _ h => h
          case hya8 =>
            refine Or.inl ⟨by rfl, ?_⟩
            intro wS hSw
            go_simp
            try with_reducible rfl
          try simp only [Act.put, List.setIfInBounds_toArray, List.set_cons_zero, List.set_cons_succ]
          refine wpAnyH_take (i := 9) (oi := ?oia9) (v := ?va9) ?hia9 (by kernel_rfl) (by kernel_rfl) (by kernel_rfl) ?hQa9 ?hya9 HS ?resta9
          case hia9 => simp only [List.getElem?_toArray, List.getElem?_cons_succ, List.getElem?_cons_zero]; exact rfl
          case hQa9 => exact fun _ _ _ h => h
          case hya9 =>
            refine Or.inl ⟨by rfl, ?_⟩
            intro wS hSw
            go_simp
            try with_reducible rfl
          try simp only [Act.put, List.setIfInBounds_toArray, List.set_cons_zero, List.set_cons_succ]
          refine wpAnyH_take (i := 10) (oi := ?oia10) (v := ?va10) ?hia10 (by kernel_rfl) (by kernel_rfl) (by kernel_rfl) ?hQa10 ?hya10 HS ?resta10
          case hia10 => simp only [List.getElem?_toArray, List.getElem?_cons_succ, List.getElem?_cons_zero]; exact rfl
          case hQa10 => exact fun _ _ _ h => h
          case hya10 =>
            refine Or.inl ⟨by rfl, ?_⟩
            intro wS hSw
            go_simp
            try with_reducible rfl
          try simp only [Act.put, List.setIfInBounds_toArray, List.set_cons_zero, List.set_cons_succ]
          refine wpAnyH_take (i := 11) (oi := ?oia11) (v := ?va11) ?hia11 (by kernel_rfl) (by kernel_rfl) (by kernel_rfl) ?hQa11 ?hya11 HS ?resta11
          case hia11 => simp only [List.getElem?_toArray, List.getElem?_cons_succ, List.getElem?_cons_zero]; exact rfl
          case hQa11 => exact fun _ _ _ h => h
          case hya11 =>
            refine Or.inl ⟨by rfl, ?_⟩
            intro wS hSw
            obtain ⟨z4, z0, zs⟩ := hSw
            go_simp
            try with_reducible rfl
          try simp only [Act.put, List.setIfInBounds_toArray, List.set_cons_zero, List.set_cons_succ]
          refine wpAnyH_take (i := 12) (oi := ?oia12) (v := ?va12) ?hia12 (by kernel_rfl) (by kernel_rfl) (by kernel_rfl) ?hQa12 ?hya12 HS ?resta12
          case hia12 => simp only [List.getElem?_toArray, List.getElem?_cons_succ, List.getElem?_cons_zero]; exact rfl
          case hQa12 => exact fun _ _ _ h => h
          case hya12 =>
            refine Or.inl ⟨by rfl, ?_⟩
            intro wS hSw
            obtain ⟨z4, z0, zs⟩ := hSw
            go_simp
            try with_reducible rfl
          try simp only [Act.put, List.setIfInBounds_toArray, List.set_cons_zero, List.set_cons_succ]
          refine wpAnyH_take (i := 13) (oi := ?oia13) (v := ?va13) ?hia13 (by kernel_rfl) (by kernel_rfl) (by kernel_rfl) ?hQa13 ?hya13 HS ?resta13
          case hia13 => simp only [List.getElem?_toArray, List.getElem?_cons_succ, List.getElem?_cons_zero]; exact rfl
          case hQa13 => exact fun _ _ _ h => h
          case hya13 =>
            refine Or.inl ⟨by rfl, ?_⟩
            intro wS hSw
            obtain ⟨z4, z0, zs⟩ := hSw
            go_simp
            try with_reducible rfl
          try simp only [Act.put, List.setIfInBounds_toArray, List.set_cons_zero, List.set_cons_succ]
          refine wpAnyH_take (i := 14) (oi := ?oia14) (v := ?va14) ?hia14 (by kernel_rfl) (by kernel_rfl) (by kernel_rfl) ?hQa14 ?hya14 HS ?resta14
          case hia14 => simp only [List.getElem?_toArray, List.getElem?_cons_succ, List.getElem?_cons_zero]; exact rfl
          case hQa14 => exact fun _ _ _ h => h
          case hya14 =>
            refine Or.inl ⟨by rfl, ?_⟩
            intro wS hSw
            go_simp
            try with_reducible rfl
          try simp only [Act.put, List.setIfInBounds_toArray, List.set_cons_zero, List.set_cons_succ]
          refine wpAnyH_take (i := 15) (oi := ?oia15) (v := ?va15) ?hia15 (by kernel_rfl) (by kernel_rfl) (by kernel_rfl) ?hQa15 ?hya15 HS ?resta15
          case hia15 => simp only [List.getElem?_toArray, List.getElem?_cons_succ, List.getElem?_cons_zero]; exact rfl
          case hQa15 => exact fun _ _ _ h => h
          case hya15 =>
            refine Or.inl ⟨by rfl, ?_⟩
            intro wS hSw
            go_simp
            try with_reducible rfl
          try simp only [Act.put, List.setIfInBounds_toArray, List.set_cons_zero, List.set_cons_succ]
          refine wpAnyH_take (i := 16) (oi := ?oia16) (v := ?va16) ?hia16 (by kernel_rfl) (by kernel_rfl) (by kernel_rfl) ?hQa16 ?hya16 HS ?resta16
          case hia16 => simp only [List.getElem?_toArray, List.getElem?_cons_succ, List.getElem?_cons_zero]; exact rfl
          case hQa16 => exact fun _ _ _ h => h
          case hya16 =>
            refine Or.inl ⟨by rfl, ?_⟩
            intro wS hSw
            go_simp
            try with_reducible rfl
          try simp only [Act.put, List.setIfInBounds_toArray, List.set_cons_zero, List.set_cons_succ]
          refine wpAnyH_take (i := 17) (oi := ?oia17) (v := ?va17) ?hia17 (by kernel_rfl) (by kernel_rfl) (by kernel_rfl) ?hQa17 ?hya17 HS ?resta17
          case hia17 => simp only [List.getElem?_toArray, List.getElem?_cons_succ, List.getElem?_cons_zero]; exact rfl
          case hQa17 => exact fun _ _ _ h => h
          case hya17 =>
            refine Or.inl ⟨by rfl, ?_⟩
            intro wS hSw
            go_simp
            try with_reducible rfl
          try simp only [Act.put, List.setIfInBounds_toArray, List.set_cons_zero, List.set_cons_succ]
          refine wpAnyH_take (i := 18) (oi := ?oia18) (v := ?va18) ?hia18 (by kernel_rfl) (by kernel_rfl) (by kernel_rfl) ?hQa18 ?hya18 HS ?resta18
          case hia18 => simp only [List.getElem?_toArray, List.getElem?_cons_succ, List.getElem?_cons_zero]; exact rfl
          case hQa18 => exact fun _ _ _ h => h
          case hya18 =>
            refine Or.inl ⟨by rfl, ?_⟩
            intro wS hSw
            go_simp
            try with_reducible rfl
          try simp only [Act.put, List.setIfInBounds_toArray, List.set_cons_zero, List.set_cons_succ]
          refine wpAnyH_take (i := 19) (oi := ?oia19) (v := undef) ?hia19 (by kernel_rfl) (by kernel_rfl) (by kernel_rfl) ?hQa19 ?hya19 HS ?resta19
          case hia19 => simp only [List.getElem?_toArray, List.getElem?_cons_succ, List.getElem?_cons_zero]; exact rfl
          case hQa19 => exact fun _ _ _ h => h
          case hya19 =>
            refine Or.inr ⟨by rfl, rfl⟩
          try simp only [Act.put, List.setIfInBounds_toArray, List.set_cons_zero, List.set_cons_succ]
          refine wpAnyH_take (i := 20) (oi := ?oia20) (v := undef) ?hia20 (by kernel_rfl) (by kernel_rfl) (by kernel_rfl) ?hQa20 ?hya20 HS ?resta20
          case hia20 => simp only [List.getElem?_toArray, List.getElem?_cons_succ, List.getElem?_cons_zero]; exact rfl
          case hQa20 => exact fun _ _ _ h => h
          case hya20 =>
            refine Or.inr ⟨by rfl, rfl⟩
          try simp only [Act.put, List.setIfInBounds_toArray, List.set_cons_zero, List.set_cons_succ]
          refine wpAnyH_take (i := 21) (oi := ?oia21) (v := undef) ?hia21 (by kernel_rfl) (by kernel_rfl) (by kernel_rfl) ?hQa21 ?hya21 HS ?resta21
          case hia21 => simp only [List.getElem?_toArray, List.getElem?_cons_succ, List.getElem?_cons_zero]; exact rfl
          case hQa21 => exact fun _ _ _ h => h
          case hya21 =>
            refine Or.inr ⟨by rfl, rfl⟩
          try simp only [Act.put, List.setIfInBounds_toArray, List.set_cons_zero, List.set_cons_succ]
          refine wpAnyH_take (i := 22) (oi := ?oia22) (v := undef) ?hia22 (by kernel_rfl) (by kernel_rfl) (by kernel_rfl) ?hQa22 ?hya22 HS ?resta22
          case hia22 => simp only [List.getElem?_toArray, List.getElem?_cons_succ, List.getElem?_cons_zero]; exact rfl
          case hQa22 => exact fun _ _ _ h => h
          case hya22 =>
            refine Or.inr ⟨by rfl, rfl⟩
          try simp only [Act.put, List.setIfInBounds_toArray, List.set_cons_zero, List.set_cons_succ]
          refine wpAnyH_take (i := 23) (oi := ?oia23) (v := undef) ?hia23 (by kernel_rfl) (by kernel_rfl) (by kernel_rfl) ?hQa23 ?hya23 HS ?resta23
          case hia23 => simp only [List.getElem?_toArray, List.getElem?_cons_succ, List.getElem?_cons_zero]; exact rfl
          case hQa23 => exact fun _ _ _ h => h
          case hya23 =>
            refine Or.inr ⟨by rfl, rfl⟩
          try simp only [Act.put, List.setIfInBounds_toArray, List.set_cons_zero, List.set_cons_succ]
          refine wpAnyH_take (i := 24) (oi := ?oia24) (v := undef) ?hia24 (by kernel_rfl) (by kernel_rfl) (by kernel_rfl) ?hQa24 ?hya24 HS ?resta24
          case hia24 => simp only [List.getElem?_toArray, List.getElem?_cons_succ, List.getElem?_cons_zero]; exact rfl
          case hQa24 => exact fun _ _ _ h => h
          case hya24 =>
            refine Or.inr ⟨by rfl, rfl⟩
          try simp only [Act.put, List.setIfInBounds_toArray, List.set_cons_zero, List.set_cons_succ]
          refine wpAnyH_take (i := 25) (oi := ?oia25) (v := undef) ?hia25 (by kernel_rfl) (by kernel_rfl) (by kernel_rfl) ?hQa25 ?hya25 HS ?resta25
          case hia25 => simp only [List.getElem?_toArray, List.getElem?_cons_succ, List.getElem?_cons_zero]; exact rfl
          case hQa25 => exact fun _ _ _ h => h
          case hya25 =>
            refine Or.inr ⟨by rfl, rfl⟩
          try simp only [Act.put, List.setIfInBounds_toArray, List.set_cons_zero, List.set_cons_succ]
          refine wpAnyH_take (i := 26) (oi := ?oia26) (v := undef) ?hia26 (by kernel_rfl) (by kernel_rfl) (by kernel_rfl) ?hQa26 ?hya26 HS ?resta26
          case hia26 => simp only [List.getElem?_toArray, List.getElem?_cons_succ, List.getElem?_cons_zero]; exact rfl
          case hQa26 => exact fun _ _ _ h => h
          case hya26 =>
            refine Or.inr ⟨by rfl, rfl⟩
          try simp only [Act.put, List.setIfInBounds_toArray, List.set_cons_zero, List.set_cons_succ]
          refine wpAnyH_take (i := 27) (oi := ?oia27) (v := undef) ?hia27 (by kernel_rfl) (by kernel_rfl) (by kernel_rfl) ?hQa27 ?hya27 HS ?resta27
          case hia27 => simp only [List.getElem?_toArray, List.getElem?_cons_succ, List.getElem?_cons_zero]; exact rfl
          case hQa27 => exact fun _ _ _ h => h
          case hya27 =>
            refine Or.inr ⟨by rfl, rfl⟩
          try simp only [Act.put, List.setIfInBounds_toArray, List.set_cons_zero, List.set_cons_succ]
          refine wpAnyH_take (i := 28) (oi := ?oia28) (v := ?va28) ?hia28 (by kernel_rfl) (by kernel_rfl) (by kernel_rfl) ?hQa28 ?hya28 HS ?resta28
          case hia28 => simp only [List.getElem?_toArray, List.getElem?_cons_succ, List.getElem?_cons_zero]; exact rfl
          case hQa28 => exact fun _ _ _ h => h
          case hya28 =>
            refine Or.inl ⟨by rfl, ?_⟩
            intro wS hSw
            go_simp
            try with_reducible rfl
          try simp only [Act.put, List.setIfInBounds_toArray, List.set_cons_zero, List.set_cons_succ]
          refine wpAnyH_take (i := 29) (oi := ?oia29) (v := ?va29) ?hia29 (by kernel_rfl) (by kernel_rfl) (by kernel_rfl) ?hQa29 ?hya29 HS ?resta29
          case hia29 => simp only [List.getElem?_toArray, List.getElem?_cons_succ, List.getElem?_cons_zero]; exact rfl
          case hQa29 => exact fun _ _ _ h => h
          case hya29 =>
            refine Or.inl ⟨by rfl, ?_⟩
            intro wS hSw
            go_simp
            try with_reducible rfl
          try simp only [Act.put, List.setIfInBounds_toArray, List.set_cons_zero, List.set_cons_succ]
          refine wpAnyH_done (by kernel_rfl) ?_ _
          have HQ3 := hid (HQ2.out.go (TS.ok _ _ _ _ _ _ _ _ _ _) ((Below.refl _ _).drew))
          have HP3 : Hid (BRow 90 (wr.alloc (.cells (#[.string (str x.nm), .int .i64 x.k.t, .int .i64 x.k.c, .int .i64 x.k.e, .int .i64 (i : Int), .int .i64 x.p.k.t, .int .i64 x.p.k.c, .int .i64 x.p.k.e, .int .i64 x.p.id, .int .i64 x.p.ver, .int .i64 x.sz]) 90)).drew w6.heap.size _ k7 L') := hid (World.ownsRow.below HP2.out ((Below.refl _ _).drew))
          have HS3 := hid (HS2.out.keep (w' := (wr.alloc (.cells (#[.string (str x.nm), .int .i64 x.k.t, .int .i64 x.k.c, .int .i64 x.k.e, .int .i64 (i : Int), .int .i64 x.p.k.t, .int .i64 x.p.k.c, .int .i64 x.p.k.e, .int .i64 x.p.id, .int .i64 x.p.ver, .int .i64 x.sz]) 90)).drew) rfl)
          obtain ⟨y4, y0, ys⟩ := HS
          clear HQ2 HP2 HS2
          generalize (wr.alloc (.cells (#[.string (str x.nm), .int .i64 x.k.t, .int .i64 x.k.c, .int .i64 x.k.e, .int .i64 (i : Int), .int .i64 x.p.k.t, .int .i64 x.p.k.c, .int .i64 x.p.k.e, .int .i64 x.p.id, .int .i64 x.p.ver, .int .i64 x.sz]) 90)).drew = w12 at *
          have hfr := HS3.out.frozen i
          go_wp2_with fail
          have hg := grown_setCell w12 sn i (.bool true)
          go_roundg (m - (k + 1))
          case measure => exact meas_jb hgk2.out HKM.out
          case rel => exact ⟨k + 1, by first | rfl | rw [wk], hid rfl, hid HKM.out, hid (HQ3.out.grew (TS.ok _ _ _ _ _ _ _ _ _ _) hg (fun q hq => by injection hq with hq; exact .inr hq.symm) (fun q hq => .inl hq)), hid (HP3.out.keep fun q hq => hg.block q (own_lt HP3.out q hq) (fun e => by injection e with e; have h1 := HLA.out q hq; rw [e] at h1; exact absurd h1 (Nat.lt_irrefl _))), hid (by
            have h1 := HS3.out.store i (.bool true)
            have h2 : (sbs L' k).toArray.setIfInBounds i (.bool true) = (sbs L' (k + 1)).toArray := by
              apply Array.toList_inj.1
              rw [Array.toList_setIfInBounds, List.toList_toArray, List.toList_toArray, HST.out]
            rwa [h2] at h1)⟩
        · obtain ⟨K, hK, hKm, t1, t2, t3, t3b, t4, t5⟩ := rm_pos h0 hlt2 HM31.out
          have hKl : K < L'.length := by rw [HML.out]; exact hKm
          obtain ⟨b8, hA8, hbl8, hr8⟩ := hP.out.elem hKl
          injection hA8 with hA8
          injection hA8 with hA8 _ _
          subst hA8
          have hless : Op.bytesLess L'[K].nm x.nm = true := by
            have := HPV.out h0
            have e : L'[k - 1]'(Nat.lt_of_le_of_lt (Nat.sub_le k 1) hil) = L'[K] := by congr 1; rw [hK]; rfl
            rwa [e] at this
          generalize L'[K] = y at *
          have xp : (wr.alloc (.cells (#[.string (str x.nm), .int .i64 x.k.t, .int .i64 x.k.c, .int .i64 x.k.e, .int .i64 (i : Int), .int .i64 x.p.k.t, .int .i64 x.p.k.c, .int .i64 x.p.k.e, .int .i64 x.p.id, .int .i64 x.p.ver, .int .i64 x.sz]) 90)).cell? ⟨b7, K * 11, none⟩ = some (.string (str y.nm)) := by rw [World.cell?_of_block (hbx.block _ hbl)]; exact (range11 hr8).1
          have s2 := str_list y.nm
          have d1 : Op.bytesLess x.nm y.nm = false := less_turn hless
          have d2 : (y.nm == x.nm) = false := by simpa using less_ne hless
          have d3 : (x.nm == y.nm) = false := by simpa using (less_ne hless).symm
          clear hlt2 hil hi1 hi2 hi3 hi4 hi5 hr hbl hxk hcs hQ hP hS HPV hbx h0 hkk hK hKl hKm hbl8 hr8
          go_wp2_with fail
          refine wp_region_held_drew (S := fun wx => wx.cell? ⟨wr.heap.size, 4, none⟩ = some (.int .i64 (i : Int)) ∧ wx.cell? ⟨wr.heap.size, 0, none⟩ = some (.string (str x.nm)) ∧ wx.cell? ⟨sn, i, none⟩ = some (.bool false) ∧ wx.cell? ⟨b7, K * 11, none⟩ = some (.string (str y.nm))) (by kernel_rfl) ⟨x4, x0, xs, xp⟩ (fun HS => ?_)
          refine wpAnyH_take (i := 0) (oi := ?oiap0) (v := ?vap0) ?hiap0 (by kernel_rfl) (by kernel_rfl) (by kernel_rfl) ?hQap0 ?hyap0 HS ?restap0
          case hiap0 => simp only [List.getElem?_toArray, List.getElem?_cons_zero]; exact rfl
          case hQap0 => exact fun _ _ _ h => h
          case hyap0 =>
            refine Or.inl ⟨by rfl, ?_⟩
            intro wS hSw
            go_simp
            try with_reducible rfl
          try simp only [Act.put, List.setIfInBounds_toArray, List.set_cons_zero, List.set_cons_succ]
          refine wpAnyH_take (i := 1) (oi := ?oiap1) (v := ?vap1) ?hiap1 (by kernel_rfl) (by kernel_rfl) (by kernel_rfl) ?hQap1 ?hyap1 HS ?restap1
          case hiap1 => simp only [List.getElem?_toArray, List.getElem?_cons_succ, List.getElem?_cons_zero]; exact rfl
          case hQap1 => exact fun _ _ _ h => h
          case hyap1 =>
            refine Or.inl ⟨by rfl, ?_⟩
            intro wS hSw
            obtain ⟨z4, z0, zs, zp⟩ := hSw
            go_simp
            try with_reducible rfl
          try simp only [Act.put, List.setIfInBounds_toArray, List.set_cons_zero, List.set_cons_succ]
          refine wpAnyH_take (i := 2) (oi := ?oiap2) (v := ?vap2) ?hiap2 (by kernel_rfl) (by kernel_rfl) (by kernel_rfl) ?hQap2 ?hyap2 HS ?restap2
          case hiap2 => simp only [List.getElem?_toArray, List.getElem?_cons_succ, List.getElem?_cons_zero]; exact rfl
          case hQap2 => exact fun _ _ _ h => h
          case hyap2 =>
            refine Or.inl ⟨by rfl, ?_⟩
            intro wS hSw
            go_simp
            try with_reducible rfl
          try simp only [Act.put, List.setIfInBounds_toArray, List.set_cons_zero, List.set_cons_succ]
          refine wpAnyH_take (i := 3) (oi := ?oiap3) (v := ?vap3) ?hiap3 (by kernel_rfl) (by kernel_rfl) (by kernel_rfl) ?hQap3 ?hyap3 HS ?restap3
          case hiap3 => simp only [List.getElem?_toArray, List.getElem?_cons_succ, List.getElem?_cons_zero]; exact rfl
          case hQap3 => exact fun _ _ _ h => h
          case hyap3 =>
            refine Or.inl ⟨by rfl, ?_⟩
            intro wS hSw
            go_simp
            try with_reducible rfl
          try simp only [Act.put, List.setIfInBounds_toArray, List.set_cons_zero, List.set_cons_succ]
          refine wpAnyH_take (i := 4) (oi := ?oiap4) (v := ?vap4) ?hiap4 (by kernel_rfl) (by kernel_rfl) (by kernel_rfl) ?hQap4 ?hyap4 HS ?restap4
          case hiap4 => simp only [List.getElem?_toArray, List.getElem?_cons_succ, List.getElem?_cons_zero]; exact rfl
          case hQap4 => exact fun _ _ _ h => h
          case hyap4 =>
            refine Or.inl ⟨by rfl, ?_⟩
            intro wS hSw
            go_simp
            try with_reducible rfl
          try simp only [Act.put, List.setIfInBounds_toArray, List.set_cons_zero, List.set_cons_succ]
          refine wpAnyH_take (i := 5) (oi := ?oiap5) (v := ?vap5) ?hiap5 (by kernel_rfl) (by kernel_rfl) (by kernel_rfl) ?hQap5 ?hyap5 HS ?restap5
          case hiap5 => simp only [List.getElem?_toArray, List.getElem?_cons_succ, List.getElem?_cons_zero]; exact rfl
          case hQap5 => exact fun _ _ _ h => h
          case hyap5 =>
            refine Or.inl ⟨by rfl, ?_⟩
            intro wS hSw
            obtain ⟨z4, z0, zs, zp⟩ := hSw
            go_simp
            try with_reducible rfl
          try simp only [Act.put, List.setIfInBounds_toArray, List.set_cons_zero, List.set_cons_succ]
          refine wpAnyH_take (i := 6) (oi := ?oiap6) (v := ?vap6) ?hiap6 (by kernel_rfl) (by kernel_rfl) (by kernel_rfl) ?hQap6 ?hyap6 HS ?restap6
          case hiap6 => simp only [List.getElem?_toArray, List.getElem?_cons_succ, List.getElem?_cons_zero]; exact rfl
          case hQap6 => exact fun _ _ _ h => h
          case hyap6 =>
            refine Or.inl ⟨by rfl, ?_⟩
            intro wS hSw
            go_simp
            try with_reducible rfl
          try simp only [Act.put, List.setIfInBounds_toArray, List.set_cons_zero, List.set_cons_succ]
          refine wpAnyH_take (i := 7) (oi := ?oiap7) (v := ?vap7) ?hiap7 (by kernel_rfl) (by kernel_rfl) (by kernel_rfl) ?hQap7 ?hyap7 HS ?restap7
          case hiap7 => simp only [List.getElem?_toArray, List.getElem?_cons_succ, List.getElem?_cons_zero]; exact rfl
          case hQap7 => exact fun _ _ _ h => h
          case hyap7 =>
            refine Or.inl ⟨by rfl, ?_⟩
            intro wS hSw
            go_simp
            try with_reducible rfl
          try simp only [Act.put, List.setIfInBounds_toArray, List.set_cons_zero, List.set_cons_succ]
          refine wpAnyH_take (i := 8) (oi := ?oiap8) (v := ?vap8) ?hiap8 (by kernel_rfl) (by kernel_rfl) (by kernel_rfl) ?hQap8 ?hyap8 HS ?restap8
          case hiap8 => simp only [List.getElem?_toArray, List.getElem?_cons_succ, List.getElem?_cons_zero]; exact rfl
          case hQap8 => exact fun _ _ _ h => h
          case hyap8 =>
            refine Or.inl ⟨by rfl, ?_⟩
            intro wS hSw
            go_simp
            try with_reducible rfl
          try simp only [Act.put, List.setIfInBounds_toArray, List.set_cons_zero, List.set_cons_succ]
          refine wpAnyH_take (i := 9) (oi := ?oiap9) (v := ?vap9) ?hiap9 (by kernel_rfl) (by kernel_rfl) (by kernel_rfl) ?hQap9 ?hyap9 HS ?restap9
          case hiap9 => simp only [List.getElem?_toArray, List.getElem?_cons_succ, List.getElem?_cons_zero]; exact rfl
          case hQap9 => exact fun _ _ _ h => h
          case hyap9 =>
            refine Or.inl ⟨by rfl, ?_⟩
            intro wS hSw
            go_simp
            try with_reducible rfl
          try simp only [Act.put, List.setIfInBounds_toArray, List.set_cons_zero, List.set_cons_succ]
          refine wpAnyH_take (i := 10) (oi := ?oiap10) (v := ?vap10) ?hiap10 (by kernel_rfl) (by kernel_rfl) (by kernel_rfl) ?hQap10 ?hyap10 HS ?restap10
          case hiap10 => simp only [List.getElem?_toArray, List.getElem?_cons_succ, List.getElem?_cons_zero]; exact rfl
          case hQap10 => exact fun _ _ _ h => h
          case hyap10 =>
            refine Or.inl ⟨by rfl, ?_⟩
            intro wS hSw
            go_simp
            try with_reducible rfl
          try simp only [Act.put, List.setIfInBounds_toArray, List.set_cons_zero, List.set_cons_succ]
          refine wpAnyH_take (i := 11) (oi := ?oiap11) (v := ?vap11) ?hiap11 (by kernel_rfl) (by kernel_rfl) (by kernel_rfl) ?hQap11 ?hyap11 HS ?restap11
          case hiap11 => simp only [List.getElem?_toArray, List.getElem?_cons_succ, List.getElem?_cons_zero]; exact rfl
          case hQap11 => exact fun _ _ _ h => h
          case hyap11 =>
            refine Or.inl ⟨by rfl, ?_⟩
            intro wS hSw
            obtain ⟨z4, z0, zs, zp⟩ := hSw
            go_simp
            try with_reducible rfl
          try simp only [Act.put, List.setIfInBounds_toArray, List.set_cons_zero, List.set_cons_succ]
          refine wpAnyH_take (i := 12) (oi := ?oiap12) (v := ?vap12) ?hiap12 (by kernel_rfl) (by kernel_rfl) (by kernel_rfl) ?hQap12 ?hyap12 HS ?restap12
          case hiap12 => simp only [List.getElem?_toArray, List.getElem?_cons_succ, List.getElem?_cons_zero]; exact rfl
          case hQap12 => exact fun _ _ _ h => h
          case hyap12 =>
            refine Or.inl ⟨by rfl, ?_⟩
            intro wS hSw
            obtain ⟨z4, z0, zs, zp⟩ := hSw
            go_simp
            try with_reducible rfl
          try simp only [Act.put, List.setIfInBounds_toArray, List.set_cons_zero, List.set_cons_succ]
          refine wpAnyH_take (i := 13) (oi := ?oiap13) (v := ?vap13) ?hiap13 (by kernel_rfl) (by kernel_rfl) (by kernel_rfl) ?hQap13 ?hyap13 HS ?restap13
          case hiap13 => simp only [List.getElem?_toArray, List.getElem?_cons_succ, List.getElem?_cons_zero]; exact rfl
          case hQap13 => exact fun _ _ _ h => h
          case hyap13 =>
            refine Or.inl ⟨by rfl, ?_⟩
            intro wS hSw
            obtain ⟨z4, z0, zs, zp⟩ := hSw
            go_simp
            try with_reducible rfl
          try simp only [Act.put, List.setIfInBounds_toArray, List.set_cons_zero, List.set_cons_succ]
          refine wpAnyH_take (i := 14) (oi := ?oiap14) (v := ?vap14) ?hiap14 (by kernel_rfl) (by kernel_rfl) (by kernel_rfl) ?hQap14 ?hyap14 HS ?restap14
          case hiap14 => simp only [List.getElem?_toArray, List.getElem?_cons_succ, List.getElem?_cons_zero]; exact rfl
          case hQap14 => exact fun _ _ _ h => h
          case hyap14 =>
            refine Or.inl ⟨by rfl, ?_⟩
            intro wS hSw
            go_simp
            try with_reducible rfl
          try simp only [Act.put, List.setIfInBounds_toArray, List.set_cons_zero, List.set_cons_succ]
          refine wpAnyH_take (i := 15) (oi := ?oiap15) (v := ?vap15) ?hiap15 (by kernel_rfl) (by kernel_rfl) (by kernel_rfl) ?hQap15 ?hyap15 HS ?restap15
          case hiap15 => simp only [List.getElem?_toArray, List.getElem?_cons_succ, List.getElem?_cons_zero]; exact rfl
          case hQap15 => exact fun _ _ _ h => h
          case hyap15 =>
            refine Or.inl ⟨by rfl, ?_⟩
            intro wS hSw
            go_simp
            try with_reducible rfl
          try simp only [Act.put, List.setIfInBounds_toArray, List.set_cons_zero, List.set_cons_succ]
          refine wpAnyH_take (i := 16) (oi := ?oiap16) (v := ?vap16) ?hiap16 (by kernel_rfl) (by kernel_rfl) (by kernel_rfl) ?hQap16 ?hyap16 HS ?restap16
          case hiap16 => simp only [List.getElem?_toArray, List.getElem?_cons_succ, List.getElem?_cons_zero]; exact rfl
          case hQap16 => exact fun _ _ _ h => h
          case hyap16 =>
            refine Or.inl ⟨by rfl, ?_⟩
            intro wS hSw
            go_simp
            try with_reducible rfl
          try simp only [Act.put, List.setIfInBounds_toArray, List.set_cons_zero, List.set_cons_succ]
          refine wpAnyH_take (i := 17) (oi := ?oiap17) (v := ?vap17) ?hiap17 (by kernel_rfl) (by kernel_rfl) (by kernel_rfl) ?hQap17 ?hyap17 HS ?restap17
          case hiap17 => simp only [List.getElem?_toArray, List.getElem?_cons_succ, List.getElem?_cons_zero]; exact rfl
          case hQap17 => exact fun _ _ _ h => h
          case hyap17 =>
            refine Or.inl ⟨by rfl, ?_⟩
            intro wS hSw
            go_simp
            try with_reducible rfl
          try simp only [Act.put, List.setIfInBounds_toArray, List.set_cons_zero, List.set_cons_succ]
          refine wpAnyH_take (i := 18) (oi := ?oiap18) (v := ?vap18) ?hiap18 (by kernel_rfl) (by kernel_rfl) (by kernel_rfl) ?hQap18 ?hyap18 HS ?restap18
          case hiap18 => simp only [List.getElem?_toArray, List.getElem?_cons_succ, List.getElem?_cons_zero]; exact rfl
          case hQap18 => exact fun _ _ _ h => h
          case hyap18 =>
            refine Or.inl ⟨by rfl, ?_⟩
            intro wS hSw
            go_simp
            try with_reducible rfl
          try simp only [Act.put, List.setIfInBounds_toArray, List.set_cons_zero, List.set_cons_succ]
          refine wpAnyH_take (i := 19) (oi := ?oiap19) (v := ?vap19) ?hiap19 (by kernel_rfl) (by kernel_rfl) (by kernel_rfl) ?hQap19 ?hyap19 HS ?restap19
          case hiap19 => simp only [List.getElem?_toArray, List.getElem?_cons_succ, List.getElem?_cons_zero]; exact rfl
          case hQap19 => exact fun _ _ _ h => h
          case hyap19 =>
            refine Or.inl ⟨by rfl, ?_⟩
            intro wS hSw
            go_simp
            try with_reducible rfl
          try simp only [Act.put, List.setIfInBounds_toArray, List.set_cons_zero, List.set_cons_succ]
          refine wpAnyH_take (i := 20) (oi := ?oiap20) (v := ?vap20) ?hiap20 (by kernel_rfl) (by kernel_rfl) (by kernel_rfl) ?hQap20 ?hyap20 HS ?restap20
          case hiap20 => simp only [List.getElem?_toArray, List.getElem?_cons_succ, List.getElem?_cons_zero]; exact rfl
          case hQap20 => exact fun _ _ _ h => h
          case hyap20 =>
            refine Or.inl ⟨by rfl, ?_⟩
            intro wS hSw
            go_simp
            try with_reducible rfl
          try simp only [Act.put, List.setIfInBounds_toArray, List.set_cons_zero, List.set_cons_succ]
          refine wpAnyH_take (i := 21) (oi := ?oiap21) (v := ?vap21) ?hiap21 (by kernel_rfl) (by kernel_rfl) (by kernel_rfl) ?hQap21 ?hyap21 HS ?restap21
          case hiap21 => simp only [List.getElem?_toArray, List.getElem?_cons_succ, List.getElem?_cons_zero]; exact rfl
          case hQap21 => exact fun _ _ _ h => h
          case hyap21 =>
            refine Or.inl ⟨by rfl, ?_⟩
            intro wS hSw
            go_simp
            try with_reducible rfl
          try simp only [Act.put, List.setIfInBounds_toArray, List.set_cons_zero, List.set_cons_succ]
          refine wpAnyH_take (i := 22) (oi := ?oiap22) (v := ?vap22) ?hiap22 (by kernel_rfl) (by kernel_rfl) (by kernel_rfl) ?hQap22 ?hyap22 HS ?restap22
          case hiap22 => simp only [List.getElem?_toArray, List.getElem?_cons_succ, List.getElem?_cons_zero]; exact rfl
          case hQap22 => exact fun _ _ _ h => h
          case hyap22 =>
            refine Or.inl ⟨by rfl, ?_⟩
            intro wS hSw
            obtain ⟨z4, z0, zs, zp⟩ := hSw
            go_simp
            try with_reducible rfl
          try simp only [Act.put, List.setIfInBounds_toArray, List.set_cons_zero, List.set_cons_succ]
          refine wpAnyH_take (i := 23) (oi := ?oiap23) (v := ?vap23) ?hiap23 (by kernel_rfl) (by kernel_rfl) (by kernel_rfl) ?hQap23 ?hyap23 HS ?restap23
          case hiap23 => simp only [List.getElem?_toArray, List.getElem?_cons_succ, List.getElem?_cons_zero]; exact rfl
          case hQap23 => exact fun _ _ _ h => h
          case hyap23 =>
            refine Or.inl ⟨by rfl, ?_⟩
            intro wS hSw
            obtain ⟨z4, z0, zs, zp⟩ := hSw
            go_simp
            try with_reducible rfl
          try simp only [Act.put, List.setIfInBounds_toArray, List.set_cons_zero, List.set_cons_succ]
          refine wpAnyH_take (i := 24) (oi := ?oiap24) (v := ?vap24) ?hiap24 (by kernel_rfl) (by kernel_rfl) (by kernel_rfl) ?hQap24 ?hyap24 HS ?restap24
          case hiap24 => simp only [List.getElem?_toArray, List.getElem?_cons_succ, List.getElem?_cons_zero]; exact rfl
          case hQap24 => exact fun _ _ _ h => h
          case hyap24 =>
            refine Or.inl ⟨by rfl, ?_⟩
            intro wS hSw
            obtain ⟨z4, z0, zs, zp⟩ := hSw
            go_simp
            try with_reducible rfl
          try simp only [Act.put, List.setIfInBounds_toArray, List.set_cons_zero, List.set_cons_succ]
          refine wpAnyH_take (i := 25) (oi := ?oiap25) (v := ?vap25) ?hiap25 (by kernel_rfl) (by kernel_rfl) (by kernel_rfl) ?hQap25 ?hyap25 HS ?restap25
          case hiap25 => simp only [List.getElem?_toArray, List.getElem?_cons_succ, List.getElem?_cons_zero]; exact rfl
          case hQap25 => exact fun _ _ _ h => h
          case hyap25 =>
            refine Or.inl ⟨by rfl, ?_⟩
            intro wS hSw
            obtain ⟨z4, z0, zs, zp⟩ := hSw
            go_simp
            try with_reducible rfl
          try simp only [Act.put, List.setIfInBounds_toArray, List.set_cons_zero, List.set_cons_succ]
          refine wpAnyH_take (i := 26) (oi := ?oiap26) (v := ?vap26) ?hiap26 (by kernel_rfl) (by kernel_rfl) (by kernel_rfl) ?hQap26 ?hyap26 HS ?restap26
          case hiap26 => simp only [List.getElem?_toArray, List.getElem?_cons_succ, List.getElem?_cons_zero]; exact rfl
          case hQap26 => exact fun _ _ _ h => h
          case hyap26 =>
            refine Or.inl ⟨by rfl, ?_⟩
            intro wS hSw
            obtain ⟨z4, z0, zs, zp⟩ := hSw
            go_simp
            try with_reducible rfl
          try simp only [Act.put, List.setIfInBounds_toArray, List.set_cons_zero, List.set_cons_succ]
          refine wpAnyH_take (i := 27) (oi := ?oiap27) (v := ?vap27) ?hiap27 (by kernel_rfl) (by kernel_rfl) (by kernel_rfl) ?hQap27 ?hyap27 HS ?restap27
          case hiap27 => simp only [List.getElem?_toArray, List.getElem?_cons_succ, List.getElem?_cons_zero]; exact rfl
          case hQap27 => exact fun _ _ _ h => h
          case hyap27 =>
            refine Or.inl ⟨by rfl, ?_⟩
            intro wS hSw
            go_simp
            try with_reducible rfl
          try simp only [Act.put, List.setIfInBounds_toArray, List.set_cons_zero, List.set_cons_succ]
          refine wpAnyH_take (i := 28) (oi := ?oiap28) (v := ?vap28) ?hiap28 (by kernel_rfl) (by kernel_rfl) (by kernel_rfl) ?hQap28 ?hyap28 HS ?restap28
          case hiap28 => simp only [List.getElem?_toArray, List.getElem?_cons_succ, List.getElem?_cons_zero]; exact rfl
          case hQap28 => exact fun _ _ _ h => h
          case hyap28 =>
            refine Or.inl ⟨by rfl, ?_⟩
            intro wS hSw
            go_simp
            try with_reducible rfl
          try simp only [Act.put, List.setIfInBounds_toArray, List.set_cons_zero, List.set_cons_succ]
          refine wpAnyH_take (i := 29) (oi := ?oiap29) (v := ?vap29) ?hiap29 (by kernel_rfl) (by kernel_rfl) (by kernel_rfl) ?hQap29 ?hyap29 HS ?restap29
          case hiap29 => simp only [List.getElem?_toArray, List.getElem?_cons_succ, List.getElem?_cons_zero]; exact rfl
          case hQap29 => exact fun _ _ _ h => h
          case hyap29 =>
            refine Or.inl ⟨by rfl, ?_⟩
            intro wS hSw
            go_simp
            try with_reducible rfl
          try simp only [Act.put, List.setIfInBounds_toArray, List.set_cons_zero, List.set_cons_succ]
          refine wpAnyH_done (by kernel_rfl) ?_ _
          have HQ3 := hid (HQ2.out.go (TS.ok _ _ _ _ _ _ _ _ _ _) ((Below.refl _ _).drew))
          have HP3 : Hid (BRow 90 (wr.alloc (.cells (#[.string (str x.nm), .int .i64 x.k.t, .int .i64 x.k.c, .int .i64 x.k.e, .int .i64 (i : Int), .int .i64 x.p.k.t, .int .i64 x.p.k.c, .int .i64 x.p.k.e, .int .i64 x.p.id, .int .i64 x.p.ver, .int .i64 x.sz]) 90)).drew w6.heap.size _ k7 L') := hid (World.ownsRow.below HP2.out ((Below.refl _ _).drew))
          have HS3 := hid (HS2.out.keep (w' := (wr.alloc (.cells (#[.string (str x.nm), .int .i64 x.k.t, .int .i64 x.k.c, .int .i64 x.k.e, .int .i64 (i : Int), .int .i64 x.p.k.t, .int .i64 x.p.k.c, .int .i64 x.p.k.e, .int .i64 x.p.id, .int .i64 x.p.ver, .int .i64 x.sz]) 90)).drew) rfl)
          obtain ⟨y4, y0, ys, -⟩ := HS
          clear HQ2 HP2 HS2
          generalize (wr.alloc (.cells (#[.string (str x.nm), .int .i64 x.k.t, .int .i64 x.k.c, .int .i64 x.k.e, .int .i64 (i : Int), .int .i64 x.p.k.t, .int .i64 x.p.k.c, .int .i64 x.p.k.e, .int .i64 x.p.id, .int .i64 x.p.ver, .int .i64 x.sz]) 90)).drew = w12 at *
          have hfr := HS3.out.frozen i
          go_wp2_with fail
          have hg := grown_setCell w12 sn i (.bool true)
          go_roundg (m - (k + 1))
          case measure => exact meas_jb hgk2.out HKM.out
          case rel => exact ⟨k + 1, by first | rfl | rw [wk], hid rfl, hid HKM.out, hid (HQ3.out.grew (TS.ok _ _ _ _ _ _ _ _ _ _) hg (fun q hq => by injection hq with hq; exact .inr hq.symm) (fun q hq => .inl hq)), hid (HP3.out.keep fun q hq => hg.block q (own_lt HP3.out q hq) (fun e => by injection e with e; have h1 := HLA.out q hq; rw [e] at h1; exact absurd h1 (Nat.lt_irrefl _))), hid (by
            have h1 := HS3.out.store i (.bool true)
            have h2 : (sbs L' k).toArray.setIfInBounds i (.bool true) = (sbs L' (k + 1)).toArray := by
              apply Array.toList_inj.1
              rw [Array.toList_setIfInBounds, List.toList_toArray, List.toList_toArray, HST.out]
            rwa [h2] at h1)⟩
      · have hkm : k = m := by have := hk.out; omega
        subst hkm
        have k2 : ¬ (k : Int) < (k : Int) := by omega
        have HQE := hid (hQ.out.less (Y := fun _ => False) fun x hx => hx.elim)
        clear hge2 hk hgk2
        go_wp2_with fail
        go_roundg (n - (j + 1))
        case measure => exact meas_jb hgk.out HJN.out
        case rel =>
          obtain ⟨hv', hhv⟩ := HHV8.out
          exact ⟨j + 1, d', v', c', L', hv', by first | rfl | rw [wj], hid rfl, hid HJN.out, HSI8, hid hhv, hid ⟨HVV.out.2.1, HVV.out.2.2.1, HVV.out.2.2.2.1, HVV.out.1, HVV.out.2.2.2.2, rm_25 HJ20.out⟩, HQE⟩
    · have HLE := hid (HER.out hE)
      have z1 : (E == 0) = false := beq_eq_false_iff_ne.2 hE
      have z2 : decide (E = 0) = false := decide_eq_false hE
      have z3 : (E != 0) = true := bne_iff_ne.2 hE
      clear hE HER
      have hsm := ssame_c HP7.out HR7.out (by rw [← HLE.out]; have := HML.out; have := HM31.out; omega)
      rw [show decide (L = L') = true from decide_eq_true HLE.out.symm, show L.length = m by rw [← HLE.out]; exact HML.out, HML.out] at hsm
      have HSAM := hid hsm
      clear hsm
      rw [show L.length = m by rw [← HLE.out]; exact HML.out]
      go_wp2_with fail
      refine HSAM.out.mono ?_
      rintro e w8 ⟨rfl, hb8⟩
      have HV8 := hid (HV7.out.go (TS.ok _ _ _ _ _ _ _ _ _ _) hb8)
      have HR8 : Hid (BRow 90 w8 _ A7 k7 L') := hid (World.ownsRow.below HR7.out hb8)
      clear hb8 HV7 HR7 HP7 HSAM HLE
      go_wp2_with fail
      refine (sfree_on (ts_s gd d' gv v' gc c') HV8.out HNN.out.1).mono ?_
      rintro e w9 ⟨rfl, rfl⟩
      rw [HFL.out]
      go_wp2_with fail
      clear g1 g2
      have hbq : Below w8.heap.size w8 (w8.alloc (.cells #[.bool false, .bool false, .bool false, .bool false, .bool false, .bool false, .bool false, .bool false, .bool false, .bool false, .bool false, .bool false, .bool false, .bool false, .bool false, .bool false, .bool false, .bool false, .bool false, .bool false, .bool false, .bool false, .bool false, .bool false, .bool false, .bool false, .bool false, .bool false, .bool false, .bool false, .bool false, .bool false, .bool false, .bool false, .bool false, .bool false, .bool false, .bool false, .bool false, .bool false] 98)) := (Below.refl _ _).alloc (Nat.le_refl _) _
      have HLA : Hid (∀ b, A7.map (·.block) = some b → b < w8.heap.size) := hid (fun b hb => own_lt HR8.out b hb)
      have HQX : Hid (On w (TS gd d' gv v' gc c' gs N L' false) (w8.alloc (.cells #[.bool false, .bool false, .bool false, .bool false, .bool false, .bool false, .bool false, .bool false, .bool false, .bool false, .bool false, .bool false, .bool false, .bool false, .bool false, .bool false, .bool false, .bool false, .bool false, .bool false, .bool false, .bool false, .bool false, .bool false, .bool false, .bool false, .bool false, .bool false, .bool false, .bool false, .bool false, .bool false, .bool false, .bool false, .bool false, .bool false, .bool false, .bool false, .bool false, .bool false] 98)) (fun b => A7.map (·.block) = some b ∨ b = w8.heap.size)) := hid (HV8.out.add (TS.ok _ _ _ _ _ _ _ _ _ _) hbq (Y := fun x => x = w8.heap.size) (fun x hx => by subst hx; simp))
      have HSX : Hid (Blk (w8.alloc (.cells #[.bool false, .bool false, .bool false, .bool false, .bool false, .bool false, .bool false, .bool false, .bool false, .bool false, .bool false, .bool false, .bool false, .bool false, .bool false, .bool false, .bool false, .bool false, .bool false, .bool false, .bool false, .bool false, .bool false, .bool false, .bool false, .bool false, .bool false, .bool false, .bool false, .bool false, .bool false, .bool false, .bool false, .bool false, .bool false, .bool false, .bool false, .bool false, .bool false, .bool false] 98)) w8.heap.size 98 (sbs L' 0).toArray) := hid (Blk.new _ _ _)
      have HPX : Hid (BRow 90 (w8.alloc (.cells #[.bool false, .bool false, .bool false, .bool false, .bool false, .bool false, .bool false, .bool false, .bool false, .bool false, .bool false, .bool false, .bool false, .bool false, .bool false, .bool false, .bool false, .bool false, .bool false, .bool false, .bool false, .bool false, .bool false, .bool false, .bool false, .bool false, .bool false, .bool false, .bool false, .bool false, .bool false, .bool false, .bool false, .bool false, .bool false, .bool false, .bool false, .bool false, .bool false, .bool false] 98)) w6.heap.size A7 k7 L') := hid (World.ownsRow.below HR8.out hbq)
      have HSN : Hid (w.heap.size ≤ w8.heap.size) := hid HV8.out.below.size
      clear HV8 HR8 hbq
      generalize w8.heap.size = sn at *
      generalize w8.alloc (.cells #[.bool false, .bool false, .bool false, .bool false, .bool false, .bool false, .bool false, .bool false, .bool false, .bool false, .bool false, .bool false, .bool false, .bool false, .bool false, .bool false, .bool false, .bool false, .bool false, .bool false, .bool false, .bool false, .bool false, .bool false, .bool false, .bool false, .bool false, .bool false, .bool false, .bool false, .bool false, .bool false, .bool false, .bool false, .bool false, .bool false, .bool false, .bool false, .bool false, .bool false] 98) = w10 at *
      go_loopg [83] m (fun kk iv wr => ∃ k : Nat, iv = .int .i64 (k : Int) ∧ Hid (kk = m - k) ∧ Hid (k ≤ m) ∧ Hid (On w (TS gd d' gv v' gc c' gs N L' false) wr (fun b => A7.map (·.block) = some b ∨ b = sn)) ∧ Hid (BRow 90 wr w6.heap.size A7 k7 L') ∧ Hid (Blk wr sn 98 (sbs L' k).toArray))
      case atStart => exact ⟨0, rfl, hid rfl, hid (Nat.zero_le _), HQX, HPX, HSX⟩
      case round =>
      obtain ⟨k, rfl, hgk2, hk, hQ, hP, hS⟩ := hrel
      clear HQX HPX HSX
      rename World => wr
      rcases Nat.lt_or_ge k m with hlt2 | hge2
      · have HKM := hid hlt2
        have hil : k < L'.length := by rw [HML.out]; exact hlt2
        have k1 : (0 : Int) ≤ (k : Int) := by omega
        have k2 : (k : Int) < (m : Int) := by omega
        have k3 : decide ((k : Int) < (m : Int)) = true := by simpa using hlt2
        have k4 : decide (k < m) = true := decide_eq_true hlt2
        have wk : wrap64 ((k : Int) + 1) = ((k + 1 : Nat) : Int) := rm_wk HM31.out hlt2
        obtain ⟨i, hi1, hi2, hi3, hi4, hi5⟩ := rm_fact HSI8.out.rg (n := N) (fun x hx => by have := HSI8.out.bl x hx; rw [show d'.n = N from HVV.out.2.1] at this; exact this) (by have := HNN.out; omega) hil
        have HST := hid (sbs_step hil hi1 (by have := HNN.out; omega))
        obtain ⟨b7, hA7, hbl, hr⟩ := hP.out.elem hil
        have HLB := hid (HLA.out b7 (by rw [hA7]; rfl))
        have HPV := hid hi5
        generalize hxk : L'[k] = x at *
        obtain ⟨c0', c1', c2, c3, c4, c5, c6, c7, c8, c9, c10⟩ := range11 hr
        rw [hi1] at c4
        have hcs := hS.out.cell i
        have hfr := hS.out.frozen i
        rw [List.getElem?_toArray, hi4] at hcs
        have i1 : decide ((i : Int) < 2) = false := rm_i1 hi2
        have i2 : decide ((N : Int) ≤ (i : Int)) = false := rm_i2 hi3
        have i1n : decide (i < 2) = false := decide_eq_false (Nat.not_lt.2 hi2)
        have i2n : decide (N ≤ i) = false := decide_eq_false (Nat.not_le.2 hi3)
        have i3 : (0 : Int) ≤ (i : Int) := by omega
        have i4 : (i : Int) < 40 := rm_i4 hi3 HNN.out.2
        have HBX := hid (Blk.new wr 90 (#[.string (str x.nm), .int .i64 x.k.t, .int .i64 x.k.c, .int .i64 x.k.e, .int .i64 (i : Int), .int .i64 x.p.k.t, .int .i64 x.p.k.c, .int .i64 x.p.k.e, .int .i64 x.p.id, .int .i64 x.p.ver, .int .i64 x.sz]))
        have hbx : Below wr.heap.size wr (wr.alloc (.cells (#[.string (str x.nm), .int .i64 x.k.t, .int .i64 x.k.c, .int .i64 x.k.e, .int .i64 (i : Int), .int .i64 x.p.k.t, .int .i64 x.p.k.c, .int .i64 x.p.k.e, .int .i64 x.p.id, .int .i64 x.p.ver, .int .i64 x.sz]) 90)) := (Below.refl _ _).alloc (Nat.le_refl _) _
        have HQ2 := hid (hQ.out.go (TS.ok _ _ _ _ _ _ _ _ _ _) hbx)
        have HP2 : Hid (BRow 90 (wr.alloc (.cells (#[.string (str x.nm), .int .i64 x.k.t, .int .i64 x.k.c, .int .i64 x.k.e, .int .i64 (i : Int), .int .i64 x.p.k.t, .int .i64 x.p.k.c, .int .i64 x.p.k.e, .int .i64 x.p.id, .int .i64 x.p.ver, .int .i64 x.sz]) 90)) w6.heap.size A7 k7 L') := hid (World.ownsRow.below hP.out hbx)
        have HS2 := hid (hS.out.keep (hbx.block _ hS.out.lt))
        have x0 : (wr.alloc (.cells (#[.string (str x.nm), .int .i64 x.k.t, .int .i64 x.k.c, .int .i64 x.k.e, .int .i64 (i : Int), .int .i64 x.p.k.t, .int .i64 x.p.k.c, .int .i64 x.p.k.e, .int .i64 x.p.id, .int .i64 x.p.ver, .int .i64 x.sz]) 90)).cell? ⟨wr.heap.size, 0, none⟩ = some (.string (str x.nm)) := (HBX.out.cell 0).trans rfl
        have x4 : (wr.alloc (.cells (#[.string (str x.nm), .int .i64 x.k.t, .int .i64 x.k.c, .int .i64 x.k.e, .int .i64 (i : Int), .int .i64 x.p.k.t, .int .i64 x.p.k.c, .int .i64 x.p.k.e, .int .i64 x.p.id, .int .i64 x.p.ver, .int .i64 x.sz]) 90)).cell? ⟨wr.heap.size, 4, none⟩ = some (.int .i64 (i : Int)) := (HBX.out.cell 4).trans rfl
        have xs : (wr.alloc (.cells (#[.string (str x.nm), .int .i64 x.k.t, .int .i64 x.k.c, .int .i64 x.k.e, .int .i64 (i : Int), .int .i64 x.p.k.t, .int .i64 x.p.k.c, .int .i64 x.p.k.e, .int .i64 x.p.id, .int .i64 x.p.ver, .int .i64 x.sz]) 90)).cell? ⟨sn, i, none⟩ = some (.bool false) := by rw [World.cell?_of_block (hbx.block _ hS.out.lt)]; exact hcs
        subst hA7
        have s1 := str_list x.nm
        have hkk : w.heap.size ≤ sn ∧ sn < wr.heap.size := ⟨HSN.out, hS.out.lt⟩
        have HBB := hid hkk
        rcases Nat.eq_zero_or_pos k with h0 | h0
        · have t1 : decide ((0 : Int) < (k : Int)) = false := by rw [h0]; decide
          have t2 : decide (0 < k) = false := by rw [h0]; decide
          have HK0 := hid h0
          clear hlt2 hil hi1 hi2 hi3 hi4 hi5 hr hbl hxk hcs hQ hP hS HPV hbx h0 hkk
          go_wp2_with fail
          refine wp_region_held_drew (S := fun wx => wx.cell? ⟨wr.heap.size, 4, none⟩ = some (.int .i64 (i : Int)) ∧ wx.cell? ⟨wr.heap.size, 0, none⟩ = some (.string (str x.nm)) ∧ wx.cell? ⟨sn, i, none⟩ = some (.bool false)) (by kernel_rfl) ⟨x4, x0, xs⟩ (fun HS => ?_)
          refine wpAnyH_take (i := 0) (oi := ?oib0) (v := ?vb0) ?hib0 (by kernel_rfl) (by kernel_rfl) (by kernel_rfl) ?hQb0 ?hyb0 HS ?restb0
          case hib0 => simp only [List.getElem?_toArray, List.getElem?_cons_zero]; exact rfl
          case hQb0 => exact fun _ _ _ h => h
          case hyb0 =>
            refine Or.inl ⟨by rfl, ?_⟩
            intro wS hSw
            go_simp
            try with_reducible rfl
          try simp only [Act.put, List.setIfInBounds_toArray, List.set_cons_zero, List.set_cons_succ]
          refine wpAnyH_take (i := 1) (oi := ?oib1) (v := ?vb1) ?hib1 (by kernel_rfl) (by kernel_rfl) (by kernel_rfl) ?hQb1 ?hyb1 HS ?restb1
          case hib1 => simp only [List.getElem?_toArray, List.getElem?_cons_succ, List.getElem?_cons_zero]; exact rfl
          case hQb1 => exact fun _ _ _ h => h
          case hyb1 =>
            refine Or.inl ⟨by rfl, ?_⟩
            intro wS hSw
            obtain ⟨z4, z0, zs⟩ := hSw
            go_simp
            try with_reducible rfl
          try simp only [Act.put, List.setIfInBounds_toArray, List.set_cons_zero, List.set_cons_succ]
          refine wpAnyH_take (i := 2) (oi := ?oib2) (v := ?vb2) ?hib2 (by kernel_rfl) (by kernel_rfl) (by kernel_rfl) ?hQb2 ?hyb2 HS ?restb2
          case hib2 => simp only [List.getElem?_toArray, List.getElem?_cons_succ, List.getElem?_cons_zero]; exact rfl
          case hQb2 => exact fun _ _ _ h => h
          case hyb2 =>
            refine Or.inl ⟨by rfl, ?_⟩
            intro wS hSw
            go_simp
            try with_reducible rfl
          try simp only [Act.put, List.setIfInBounds_toArray, List.set_cons_zero, List.set_cons_succ]
          refine wpAnyH_take (i := 3) (oi := ?oib3) (v := ?vb3) ?hib3 (by kernel_rfl) (by kernel_rfl) (by kernel_rfl) ?hQb3 ?hyb3 HS ?restb3
          case hib3 => simp only [List.getElem?_toArray, List.getElem?_cons_succ, List.getElem?_cons_zero]; exact rfl
          case hQb3 => exact fun _ _ _ h => h
          case hyb3 =>
            refine Or.inl ⟨by rfl, ?_⟩
            intro wS hSw
            go_simp
            try with_reducible rfl
          try simp only [Act.put, List.setIfInBounds_toArray, List.set_cons_zero, List.set_cons_succ]
          refine wpAnyH_take (i := 4) (oi := ?oib4) (v := ?vb4) ?hib4 (by kernel_rfl) (by kernel_rfl) (by kernel_rfl) ?hQb4 ?hyb4 HS ?restb4
          case hib4 => simp only [List.getElem?_toArray, List.getElem?_cons_succ, List.getElem?_cons_zero]; exact rfl
          case hQb4 => exact fun _ _ _ h => h
          case hyb4 =>
            refine Or.inl ⟨by rfl, ?_⟩
            intro wS hSw
            go_simp
            try with_reducible rfl
          try simp only [Act.put, List.setIfInBounds_toArray, List.set_cons_zero, List.set_cons_succ]
          refine wpAnyH_take (i := 5) (oi := ?oib5) (v := ?vb5) ?hib5 (by kernel_rfl) (by kernel_rfl) (by kernel_rfl) ?hQb5 ?hyb5 HS ?restb5
          case hib5 => simp only [List.getElem?_toArray, List.getElem?_cons_succ, List.getElem?_cons_zero]; exact rfl
          case hQb5 => exact fun _ _ _ h => h
          case hyb5 =>
            refine Or.inl ⟨by rfl, ?_⟩
            intro wS hSw
            obtain ⟨z4, z0, zs⟩ := hSw
            go_simp
            try with_reducible rfl
          try simp only [Act.put, List.setIfInBounds_toArray, List.set_cons_zero, List.set_cons_succ]
          refine wpAnyH_take (i := 6) (oi := ?oib6) (v := ?vb6) ?hib6 (by kernel_rfl) (by kernel_rfl) (by kernel_rfl) ?hQb6 ?hyb6 HS ?restb6
          case hib6 => simp only [List.getElem?_toArray, List.getElem?_cons_succ, List.getElem?_cons_zero]; exact rfl
          case hQb6 => exact fun _ _ _ h => h
          case hyb6 =>
            refine Or.inl ⟨by rfl, ?_⟩
            intro wS hSw
            go_simp
            try with_reducible rfl
          try simp only [Act.put, List.setIfInBounds_toArray, List.set_cons_zero, List.set_cons_succ]
          refine wpAnyH_take (i := 7) (oi := ?oib7) (v := ?vb7) ?hib7 (by kernel_rfl) (by kernel_rfl) (by kernel_rfl) ?hQb7 ?hyb7 HS ?restb7
          case hib7 => simp only [List.getElem?_toArray, List.getElem?_cons_succ, List.getElem?_cons_zero]; exact rfl
          case hQb7 => exact fun _ _ _ h => h
          case hyb7 =>
            refine Or.inl ⟨by rfl, ?_⟩
            intro wS hSw
            go_simp
            try with_reducible rfl
          try simp only [Act.put, List.setIfInBounds_toArray, List.set_cons_zero, List.set_cons_succ]
          refine wpAnyH_take (i := 8) (oi := ?oib8) (v := ?vb8) ?hib8 (by kernel_rfl) (by kernel_rfl) (by kernel_rfl) ?hQb8 ?hyb8 HS ?restb8
          case hib8 => simp only [List.getElem?_toArray, List.getElem?_cons_succ, List.getElem?_cons_zero]; exact rfl
          case hQb8 => exact fun _ _ _ h => h
          case hyb8 =>
            refine Or.inl ⟨by rfl, ?_⟩
            intro wS hSw
            go_simp
            try with_reducible rfl
          try simp only [Act.put, List.setIfInBounds_toArray, List.set_cons_zero, List.set_cons_succ]
          refine wpAnyH_take (i := 9) (oi := ?oib9) (v := ?vb9) ?hib9 (by kernel_rfl) (by kernel_rfl) (by kernel_rfl) ?hQb9 ?hyb9 HS ?restb9
          case hib9 => simp only [List.getElem?_toArray, List.getElem?_cons_succ, List.getElem?_cons_zero]; exact rfl
          case hQb9 => exact fun _ _ _ h => h
          case hyb9 =>
            refine Or.inl ⟨by rfl, ?_⟩
            intro wS hSw
            go_simp
            try with_reducible rfl
          try simp only [Act.put, List.setIfInBounds_toArray, List.set_cons_zero, List.set_cons_succ]
          refine wpAnyH_take (i := 10) (oi := ?oib10) (v := ?vb10) ?hib10 (by kernel_rfl) (by kernel_rfl) (by kernel_rfl) ?hQb10 ?hyb10 HS ?restb10
          case hib10 => simp only [List.getElem?_toArray, List.getElem?_cons_succ, List.getElem?_cons_zero]; exact rfl
          case hQb10 => exact fun _ _ _ h => h
          case hyb10 =>
            refine Or.inl ⟨by rfl, ?_⟩
            intro wS hSw
            go_simp
            try with_reducible rfl
          try simp only [Act.put, List.setIfInBounds_toArray, List.set_cons_zero, List.set_cons_succ]
          refine wpAnyH_take (i := 11) (oi := ?oib11) (v := ?vb11) ?hib11 (by kernel_rfl) (by kernel_rfl) (by kernel_rfl) ?hQb11 ?hyb11 HS ?restb11
          case hib11 => simp only [List.getElem?_toArray, List.getElem?_cons_succ, List.getElem?_cons_zero]; exact rfl
          case hQb11 => exact fun _ _ _ h => h
          case hyb11 =>
            refine Or.inl ⟨by rfl, ?_⟩
            intro wS hSw
            obtain ⟨z4, z0, zs⟩ := hSw
            go_simp
            try with_reducible rfl
          try simp only [Act.put, List.setIfInBounds_toArray, List.set_cons_zero, List.set_cons_succ]
          refine wpAnyH_take (i := 12) (oi := ?oib12) (v := ?vb12) ?hib12 (by kernel_rfl) (by kernel_rfl) (by kernel_rfl) ?hQb12 ?hyb12 HS ?restb12
          case hib12 => simp only [List.getElem?_toArray, List.getElem?_cons_succ, List.getElem?_cons_zero]; exact rfl
          case hQb12 => exact fun _ _ _ h => h
          case hyb12 =>
            refine Or.inl ⟨by rfl, ?_⟩
            intro wS hSw
            obtain ⟨z4, z0, zs⟩ := hSw
            go_simp
            try with_reducible rfl
          try simp only [Act.put, List.setIfInBounds_toArray, List.set_cons_zero, List.set_cons_succ]
          refine wpAnyH_take (i := 13) (oi := ?oib13) (v := ?vb13) ?hib13 (by kernel_rfl) (by kernel_rfl) (by kernel_rfl) ?hQb13 ?hyb13 HS ?restb13
          case hib13 => simp only [List.getElem?_toArray, List.getElem?_cons_succ, List.getElem?_cons_zero]; exact rfl
          case hQb13 => exact fun _ _ _ h => h
          case hyb13 =>
            refine Or.inl ⟨by rfl, ?_⟩
            intro wS hSw
            obtain ⟨z4, z0, zs⟩ := hSw
            go_simp
            try with_reducible rfl
          try simp only [Act.put, List.setIfInBounds_toArray, List.set_cons_zero, List.set_cons_succ]
          refine wpAnyH_take (i := 14) (oi := ?oib14) (v := ?vb14) ?hib14 (by kernel_rfl) (by kernel_rfl) (by kernel_rfl) ?hQb14 ?hyb14 HS ?restb14
          case hib14 => simp only [List.getElem?_toArray, List.getElem?_cons_succ, List.getElem?_cons_zero]; exact rfl
          case hQb14 => exact fun _ _ _ h => h
          case hyb14 =>
            refine Or.inl ⟨by rfl, ?_⟩
            intro wS hSw
            go_simp
            try with_reducible rfl
          try simp only [Act.put, List.setIfInBounds_toArray, List.set_cons_zero, List.set_cons_succ]
          refine wpAnyH_take (i := 15) (oi := ?oib15) (v := ?vb15) ?hib15 (by kernel_rfl) (by kernel_rfl) (by kernel_rfl) ?hQb15 ?hyb15 HS ?restb15
          case hib15 => simp only [List.getElem?_toArray, List.getElem?_cons_succ, List.getElem?_cons_zero]; exact rfl
          case hQb15 => exact fun _ _ _ h => h
          case hyb15 =>
            refine Or.inl ⟨by rfl, ?_⟩
            intro wS hSw
            go_simp
            try with_reducible rfl
          try simp only [Act.put, List.setIfInBounds_toArray, List.set_cons_zero, List.set_cons_succ]
          refine wpAnyH_take (i := 16) (oi := ?oib16) (v := ?vb16) ?hib16 (by kernel_rfl) (by kernel_rfl) (by kernel_rfl) ?hQb16 ?hyb16 HS ?restb16
          case hib16 => simp only [List.getElem?_toArray, List.getElem?_cons_succ, List.getElem?_cons_zero]; exact rfl
          case hQb16 => exact fun _ _ _ h => h
          case hyb16 =>
            refine Or.inl ⟨by rfl, ?_⟩
            intro wS hSw
            go_simp
            try with_reducible rfl
          try simp only [Act.put, List.setIfInBounds_toArray, List.set_cons_zero, List.set_cons_succ]
          refine wpAnyH_take (i := 17) (oi := ?oib17) (v := ?vb17) ?hib17 (by kernel_rfl) (by kernel_rfl) (by kernel_rfl) ?hQb17 ?hyb17 HS ?restb17
          case hib17 => simp only [List.getElem?_toArray, List.getElem?_cons_succ, List.getElem?_cons_zero]; exact rfl
          case hQb17 => exact fun _ _ _ h => h
          case hyb17 =>
            refine Or.inl ⟨by rfl, ?_⟩
            intro wS hSw
            go_simp
            try with_reducible rfl
          try simp only [Act.put, List.setIfInBounds_toArray, List.set_cons_zero, List.set_cons_succ]
          refine wpAnyH_take (i := 18) (oi := ?oib18) (v := ?vb18) ?hib18 (by kernel_rfl) (by kernel_rfl) (by kernel_rfl) ?hQb18 ?hyb18 HS ?restb18
          case hib18 => simp only [List.getElem?_toArray, List.getElem?_cons_succ, List.getElem?_cons_zero]; exact rfl
          case hQb18 => exact fun _ _ _ h => h
          case hyb18 =>
            refine Or.inl ⟨by rfl, ?_⟩
            intro wS hSw
            go_simp
            try with_reducible rfl
          try simp only [Act.put, List.setIfInBounds_toArray, List.set_cons_zero, List.set_cons_succ]
          refine wpAnyH_take (i := 19) (oi := ?oib19) (v := undef) ?hib19 (by kernel_rfl) (by kernel_rfl) (by kernel_rfl) ?hQb19 ?hyb19 HS ?restb19
          case hib19 => simp only [List.getElem?_toArray, List.getElem?_cons_succ, List.getElem?_cons_zero]; exact rfl
          case hQb19 => exact fun _ _ _ h => h
          case hyb19 =>
            refine Or.inr ⟨by rfl, rfl⟩
          try simp only [Act.put, List.setIfInBounds_toArray, List.set_cons_zero, List.set_cons_succ]
          refine wpAnyH_take (i := 20) (oi := ?oib20) (v := undef) ?hib20 (by kernel_rfl) (by kernel_rfl) (by kernel_rfl) ?hQb20 ?hyb20 HS ?restb20
          case hib20 => simp only [List.getElem?_toArray, List.getElem?_cons_succ, List.getElem?_cons_zero]; exact rfl
          case hQb20 => exact fun _ _ _ h => h
          case hyb20 =>
            refine Or.inr ⟨by rfl, rfl⟩
          try simp only [Act.put, List.setIfInBounds_toArray, List.set_cons_zero, List.set_cons_succ]
          refine wpAnyH_take (i := 21) (oi := ?oib21) (v := undef) ?hib21 (by kernel_rfl) (by kernel_rfl) (by kernel_rfl) ?hQb21 ?hyb21 HS ?restb21
          case hib21 => simp only [List.getElem?_toArray, List.getElem?_cons_succ, List.getElem?_cons_zero]; exact rfl
          case hQb21 => exact fun _ _ _ h => h
          case hyb21 =>
            refine Or.inr ⟨by rfl, rfl⟩
          try simp only [Act.put, List.setIfInBounds_toArray, List.set_cons_zero, List.set_cons_succ]
          refine wpAnyH_take (i := 22) (oi := ?oib22) (v := undef) ?hib22 (by kernel_rfl) (by kernel_rfl) (by kernel_rfl) ?hQb22 ?hyb22 HS ?restb22
          case hib22 => simp only [List.getElem?_toArray, List.getElem?_cons_succ, List.getElem?_cons_zero]; exact rfl
          case hQb22 => exact fun _ _ _ h => h
          case hyb22 =>
            refine Or.inr ⟨by rfl, rfl⟩
          try simp only [Act.put, List.setIfInBounds_toArray, List.set_cons_zero, List.set_cons_succ]
          refine wpAnyH_take (i := 23) (oi := ?oib23) (v := undef) ?hib23 (by kernel_rfl) (by kernel_rfl) (by kernel_rfl) ?hQb23 ?hyb23 HS ?restb23
          case hib23 => simp only [List.getElem?_toArray, List.getElem?_cons_succ, List.getElem?_cons_zero]; exact rfl
          case hQb23 => exact fun _ _ _ h => h
          case hyb23 =>
            refine Or.inr ⟨by rfl, rfl⟩
          try simp only [Act.put, List.setIfInBounds_toArray, List.set_cons_zero, List.set_cons_succ]
          refine wpAnyH_take (i := 24) (oi := ?oib24) (v := undef) ?hib24 (by kernel_rfl) (by kernel_rfl) (by kernel_rfl) ?hQb24 ?hyb24 HS ?restb24
          case hib24 => simp only [List.getElem?_toArray, List.getElem?_cons_succ, List.getElem?_cons_zero]; exact rfl
          case hQb24 => exact fun _ _ _ h => h
          case hyb24 =>
            refine Or.inr ⟨by rfl, rfl⟩
          try simp only [Act.put, List.setIfInBounds_toArray, List.set_cons_zero, List.set_cons_succ]
          refine wpAnyH_take (i := 25) (oi := ?oib25) (v := undef) ?hib25 (by kernel_rfl) (by kernel_rfl) (by kernel_rfl) ?hQb25 ?hyb25 HS ?restb25
          case hib25 => simp only [List.getElem?_toArray, List.getElem?_cons_succ, List.getElem?_cons_zero]; exact rfl
          case hQb25 => exact fun _ _ _ h => h
          case hyb25 =>
            refine Or.inr ⟨by rfl, rfl⟩
          try simp only [Act.put, List.setIfInBounds_toArray, List.set_cons_zero, List.set_cons_succ]
          refine wpAnyH_take (i := 26) (oi := ?oib26) (v := undef) ?hib26 (by kernel_rfl) (by kernel_rfl) (by kernel_rfl) ?hQb26 ?hyb26 HS ?restb26
          case hib26 => simp only [List.getElem?_toArray, List.getElem?_cons_succ, List.getElem?_cons_zero]; exact rfl
          case hQb26 => exact fun _ _ _ h => h
          case hyb26 =>
            refine Or.inr ⟨by rfl, rfl⟩
          try simp only [Act.put, List.setIfInBounds_toArray, List.set_cons_zero, List.set_cons_succ]
          refine wpAnyH_take (i := 27) (oi := ?oib27) (v := undef) ?hib27 (by kernel_rfl) (by kernel_rfl) (by kernel_rfl) ?hQb27 ?hyb27 HS ?restb27
          case hib27 => simp only [List.getElem?_toArray, List.getElem?_cons_succ, List.getElem?_cons_zero]; exact rfl
          case hQb27 => exact fun _ _ _ h => h
          case hyb27 =>
            refine Or.inr ⟨by rfl, rfl⟩
          try simp only [Act.put, List.setIfInBounds_toArray, List.set_cons_zero, List.set_cons_succ]
          refine wpAnyH_take (i := 28) (oi := ?oib28) (v := ?vb28) ?hib28 (by kernel_rfl) (by kernel_rfl) (by kernel_rfl) ?hQb28 ?hyb28 HS ?restb28
          case hib28 => simp only [List.getElem?_toArray, List.getElem?_cons_succ, List.getElem?_cons_zero]; exact rfl
          case hQb28 => exact fun _ _ _ h => h
          case hyb28 =>
            refine Or.inl ⟨by rfl, ?_⟩
            intro wS hSw
            go_simp
            try with_reducible rfl
          try simp only [Act.put, List.setIfInBounds_toArray, List.set_cons_zero, List.set_cons_succ]
          refine wpAnyH_take (i := 29) (oi := ?oib29) (v := ?vb29) ?hib29 (by kernel_rfl) (by kernel_rfl) (by kernel_rfl) ?hQb29 ?hyb29 HS ?restb29
          case hib29 => simp only [List.getElem?_toArray, List.getElem?_cons_succ, List.getElem?_cons_zero]; exact rfl
          case hQb29 => exact fun _ _ _ h => h
          case hyb29 =>
            refine Or.inl ⟨by rfl, ?_⟩
            intro wS hSw
            go_simp
            try with_reducible rfl
          try simp only [Act.put, List.setIfInBounds_toArray, List.set_cons_zero, List.set_cons_succ]
          refine wpAnyH_done (by kernel_rfl) ?_ _
          have HQ3 := hid (HQ2.out.go (TS.ok _ _ _ _ _ _ _ _ _ _) ((Below.refl _ _).drew))
          have HP3 : Hid (BRow 90 (wr.alloc (.cells (#[.string (str x.nm), .int .i64 x.k.t, .int .i64 x.k.c, .int .i64 x.k.e, .int .i64 (i : Int), .int .i64 x.p.k.t, .int .i64 x.p.k.c, .int .i64 x.p.k.e, .int .i64 x.p.id, .int .i64 x.p.ver, .int .i64 x.sz]) 90)).drew w6.heap.size _ k7 L') := hid (World.ownsRow.below HP2.out ((Below.refl _ _).drew))
          have HS3 := hid (HS2.out.keep (w' := (wr.alloc (.cells (#[.string (str x.nm), .int .i64 x.k.t, .int .i64 x.k.c, .int .i64 x.k.e, .int .i64 (i : Int), .int .i64 x.p.k.t, .int .i64 x.p.k.c, .int .i64 x.p.k.e, .int .i64 x.p.id, .int .i64 x.p.ver, .int .i64 x.sz]) 90)).drew) rfl)
          obtain ⟨y4, y0, ys⟩ := HS
          clear HQ2 HP2 HS2
          generalize (wr.alloc (.cells (#[.string (str x.nm), .int .i64 x.k.t, .int .i64 x.k.c, .int .i64 x.k.e, .int .i64 (i : Int), .int .i64 x.p.k.t, .int .i64 x.p.k.c, .int .i64 x.p.k.e, .int .i64 x.p.id, .int .i64 x.p.ver, .int .i64 x.sz]) 90)).drew = w12 at *
          have hfr := HS3.out.frozen i
          go_wp2_with fail
          have hg := grown_setCell w12 sn i (.bool true)
          go_roundg (m - (k + 1))
          case measure => exact meas_jb hgk2.out HKM.out
          case rel => exact ⟨k + 1, by first | rfl | rw [wk], hid rfl, hid HKM.out, hid (HQ3.out.grew (TS.ok _ _ _ _ _ _ _ _ _ _) hg (fun q hq => by injection hq with hq; exact .inr hq.symm) (fun q hq => .inl hq)), hid (HP3.out.keep fun q hq => hg.block q (own_lt HP3.out q hq) (fun e => by injection e with e; have h1 := HLA.out q hq; rw [e] at h1; exact absurd h1 (Nat.lt_irrefl _))), hid (by
            have h1 := HS3.out.store i (.bool true)
            have h2 : (sbs L' k).toArray.setIfInBounds i (.bool true) = (sbs L' (k + 1)).toArray := by
              apply Array.toList_inj.1
              rw [Array.toList_setIfInBounds, List.toList_toArray, List.toList_toArray, HST.out]
            rwa [h2] at h1)⟩
        · obtain ⟨K, hK, hKm, t1, t2, t3, t3b, t4, t5⟩ := rm_pos h0 hlt2 HM31.out
          have hKl : K < L'.length := by rw [HML.out]; exact hKm
          obtain ⟨b8, hA8, hbl8, hr8⟩ := hP.out.elem hKl
          injection hA8 with hA8
          injection hA8 with hA8 _ _
          subst hA8
          have hless : Op.bytesLess L'[K].nm x.nm = true := by
            have := HPV.out h0
            have e : L'[k - 1]'(Nat.lt_of_le_of_lt (Nat.sub_le k 1) hil) = L'[K] := by congr 1; rw [hK]; rfl
            rwa [e] at this
          generalize L'[K] = y at *
          have xp : (wr.alloc (.cells (#[.string (str x.nm), .int .i64 x.k.t, .int .i64 x.k.c, .int .i64 x.k.e, .int .i64 (i : Int), .int .i64 x.p.k.t, .int .i64 x.p.k.c, .int .i64 x.p.k.e, .int .i64 x.p.id, .int .i64 x.p.ver, .int .i64 x.sz]) 90)).cell? ⟨b7, K * 11, none⟩ = some (.string (str y.nm)) := by rw [World.cell?_of_block (hbx.block _ hbl)]; exact (range11 hr8).1
          have s2 := str_list y.nm
          have d1 : Op.bytesLess x.nm y.nm = false := less_turn hless
          have d2 : (y.nm == x.nm) = false := by simpa using less_ne hless
          have d3 : (x.nm == y.nm) = false := by simpa using (less_ne hless).symm
          clear hlt2 hil hi1 hi2 hi3 hi4 hi5 hr hbl hxk hcs hQ hP hS HPV hbx h0 hkk hK hKl hKm hbl8 hr8
          go_wp2_with fail
          refine wp_region_held_drew (S := fun wx => wx.cell? ⟨wr.heap.size, 4, none⟩ = some (.int .i64 (i : Int)) ∧ wx.cell? ⟨wr.heap.size, 0, none⟩ = some (.string (str x.nm)) ∧ wx.cell? ⟨sn, i, none⟩ = some (.bool false) ∧ wx.cell? ⟨b7, K * 11, none⟩ = some (.string (str y.nm))) (by kernel_rfl) ⟨x4, x0, xs, xp⟩ (fun HS => ?_)
          refine wpAnyH_take (i := 0) (oi := ?oibp0) (v := ?vbp0) ?hibp0 (by kernel_rfl) (by kernel_rfl) (by kernel_rfl) ?hQbp0 ?hybp0 HS ?restbp0
          case hibp0 => simp only [List.getElem?_toArray, List.getElem?_cons_zero]; exact rfl
          case hQbp0 => exact fun _ _ _ h => h
          case hybp0 =>
            refine Or.inl ⟨by rfl, ?_⟩
            intro wS hSw
            go_simp
            try with_reducible rfl
          try simp only [Act.put, List.setIfInBounds_toArray, List.set_cons_zero, List.set_cons_succ]
          refine wpAnyH_take (i := 1) (oi := ?oibp1) (v := ?vbp1) ?hibp1 (by kernel_rfl) (by kernel_rfl) (by kernel_rfl) ?hQbp1 ?hybp1 HS ?restbp1
          case hibp1 => simp only [List.getElem?_toArray, List.getElem?_cons_succ, List.getElem?_cons_zero]; exact rfl
          case hQbp1 => exact fun _ _ _ h => h
          case hybp1 =>
            refine Or.inl ⟨by rfl, ?_⟩
            intro wS hSw
            obtain ⟨z4, z0, zs, zp⟩ := hSw
            go_simp
            try with_reducible rfl
          try simp only [Act.put, List.setIfInBounds_toArray, List.set_cons_zero, List.set_cons_succ]
          refine wpAnyH_take (i := 2) (oi := ?oibp2) (v := ?vbp2) ?hibp2 (by kernel_rfl) (by kernel_rfl) (by kernel_rfl) ?hQbp2 ?hybp2 HS ?restbp2
          case hibp2 => simp only [List.getElem?_toArray, List.getElem?_cons_succ, List.getElem?_cons_zero]; exact rfl
          case hQbp2 => exact fun _ _ _ h => h
          case hybp2 =>
            refine Or.inl ⟨by rfl, ?_⟩
            intro wS hSw
            go_simp
            try with_reducible rfl
          try simp only [Act.put, List.setIfInBounds_toArray, List.set_cons_zero, List.set_cons_succ]
          refine wpAnyH_take (i := 3) (oi := ?oibp3) (v := ?vbp3) ?hibp3 (by kernel_rfl) (by kernel_rfl) (by kernel_rfl) ?hQbp3 ?hybp3 HS ?restbp3
          case hibp3 => simp only [List.getElem?_toArray, List.getElem?_cons_succ, List.getElem?_cons_zero]; exact rfl
          case hQbp3 => exact fun _ _ _ h => h
          case hybp3 =>
            refine Or.inl ⟨by rfl, ?_⟩
            intro wS hSw
            go_simp
            try with_reducible rfl
          try simp only [Act.put, List.setIfInBounds_toArray, List.set_cons_zero, List.set_cons_succ]
          refine wpAnyH_take (i := 4) (oi := ?oibp4) (v := ?vbp4) ?hibp4 (by kernel_rfl) (by kernel_rfl) (by kernel_rfl) ?hQbp4 ?hybp4 HS ?restbp4
          case hibp4 => simp only [List.getElem?_toArray, List.getElem?_cons_succ, List.getElem?_cons_zero]; exact rfl
          case hQbp4 => exact fun _ _ _ h => h
          case hybp4 =>
            refine Or.inl ⟨by rfl, ?_⟩
            intro wS hSw
            go_simp
            try with_reducible rfl
          try simp only [Act.put, List.setIfInBounds_toArray, List.set_cons_zero, List.set_cons_succ]
          refine wpAnyH_take (i := 5) (oi := ?oibp5) (v := ?vbp5) ?hibp5 (by kernel_rfl) (by kernel_rfl) (by kernel_rfl) ?hQbp5 ?hybp5 HS ?restbp5
          case hibp5 => simp only [List.getElem?_toArray, List.getElem?_cons_succ, List.getElem?_cons_zero]; exact rfl
          case hQbp5 => exact fun _ _ _ h => h
          case hybp5 =>
            refine Or.inl ⟨by rfl, ?_⟩
            intro wS hSw
            obtain ⟨z4, z0, zs, zp⟩ := hSw
            go_simp
            try with_reducible rfl
          try simp only [Act.put, List.setIfInBounds_toArray, List.set_cons_zero, List.set_cons_succ]
          refine wpAnyH_take (i := 6) (oi := ?oibp6) (v := ?vbp6) ?hibp6 (by kernel_rfl) (by kernel_rfl) (by kernel_rfl) ?hQbp6 ?hybp6 HS ?restbp6
          case hibp6 => simp only [List.getElem?_toArray, List.getElem?_cons_succ, List.getElem?_cons_zero]; exact rfl
          case hQbp6 => exact fun _ _ _ h => h
          case hybp6 =>
            refine Or.inl ⟨by rfl, ?_⟩
            intro wS hSw
            go_simp
            try with_reducible rfl
          try simp only [Act.put, List.setIfInBounds_toArray, List.set_cons_zero, List.set_cons_succ]
          refine wpAnyH_take (i := 7) (oi := ?oibp7) (v := ?vbp7) ?hibp7 (by kernel_rfl) (by kernel_rfl) (by kernel_rfl) ?hQbp7 ?hybp7 HS ?restbp7
          case hibp7 => simp only [List.getElem?_toArray, List.getElem?_cons_succ, List.getElem?_cons_zero]; exact rfl
          case hQbp7 => exact fun _ _ _ h => h
          case hybp7 =>
            refine Or.inl ⟨by rfl, ?_⟩
            intro wS hSw
            go_simp
            try with_reducible rfl
          try simp only [Act.put, List.setIfInBounds_toArray, List.set_cons_zero, List.set_cons_succ]
          refine wpAnyH_take (i := 8) (oi := ?oibp8) (v := ?vbp8) ?hibp8 (by kernel_rfl) (by kernel_rfl) (by kernel_rfl) ?hQbp8 ?hybp8 HS ?restbp8
          case hibp8 => simp only [List.getElem?_toArray, List.getElem?_cons_succ, List.getElem?_cons_zero]; exact rfl
          case hQbp8 => exact fun _ _ _ h => h
          case hybp8 =>
            refine Or.inl ⟨by rfl, ?_⟩
            intro wS hSw
            go_simp
            try with_reducible rfl
          try simp only [Act.put, List.setIfInBounds_toArray, List.set_cons_zero, List.set_cons_succ]
          refine wpAnyH_take (i := 9) (oi := ?oibp9) (v := ?vbp9) ?hibp9 (by kernel_rfl) (by kernel_rfl) (by kernel_rfl) ?hQbp9 ?hybp9 HS ?restbp9
          case hibp9 => simp only [List.getElem?_toArray, List.getElem?_cons_succ, List.getElem?_cons_zero]; exact rfl
          case hQbp9 => exact fun _ _ _ h => h
          case hybp9 =>
            refine Or.inl ⟨by rfl, ?_⟩
            intro wS hSw
            go_simp
            try with_reducible rfl
          try simp only [Act.put, List.setIfInBounds_toArray, List.set_cons_zero, List.set_cons_succ]
          refine wpAnyH_take (i := 10) (oi := ?oibp10) (v := ?vbp10) ?hibp10 (by kernel_rfl) (by kernel_rfl) (by kernel_rfl) ?hQbp10 ?hybp10 HS ?restbp10
          case hibp10 => simp only [List.getElem?_toArray, List.getElem?_cons_succ, List.getElem?_cons_zero]; exact rfl
          case hQbp10 => exact fun _ _ _ h => h
          case hybp10 =>
            refine Or.inl ⟨by rfl, ?_⟩
            intro wS hSw
            go_simp
            try with_reducible rfl
          try simp only [Act.put, List.setIfInBounds_toArray, List.set_cons_zero, List.set_cons_succ]
          refine wpAnyH_take (i := 11) (oi := ?oibp11) (v := ?vbp11) ?hibp11 (by kernel_rfl) (by kernel_rfl) (by kernel_rfl) ?hQbp11 ?hybp11 HS ?restbp11
          case hibp11 => simp only [List.getElem?_toArray, List.getElem?_cons_succ, List.getElem?_cons_zero]; exact rfl
          case hQbp11 => exact fun _ _ _ h => h
          case hybp11 =>
            refine Or.inl ⟨by rfl, ?_⟩
            intro wS hSw
            obtain ⟨z4, z0, zs, zp⟩ := hSw
            go_simp
            try with_reducible rfl
          try simp only [Act.put, List.setIfInBounds_toArray, List.set_cons_zero, List.set_cons_succ]
          refine wpAnyH_take (i := 12) (oi := ?oibp12) (v := ?vbp12) ?hibp12 (by kernel_rfl) (by kernel_rfl) (by kernel_rfl) ?hQbp12 ?hybp12 HS ?restbp12
          case hibp12 => simp only [List.getElem?_toArray, List.getElem?_cons_succ, List.getElem?_cons_zero]; exact rfl
          case hQbp12 => exact fun _ _ _ h => h
          case hybp12 =>
            refine Or.inl ⟨by rfl, ?_⟩
            intro wS hSw
            obtain ⟨z4, z0, zs, zp⟩ := hSw
            go_simp
            try with_reducible rfl
          try simp only [Act.put, List.setIfInBounds_toArray, List.set_cons_zero, List.set_cons_succ]
          refine wpAnyH_take (i := 13) (oi := ?oibp13) (v := ?vbp13) ?hibp13 (by kernel_rfl) (by kernel_rfl) (by kernel_rfl) ?hQbp13 ?hybp13 HS ?restbp13
          case hibp13 => simp only [List.getElem?_toArray, List.getElem?_cons_succ, List.getElem?_cons_zero]; exact rfl
          case hQbp13 => exact fun _ _ _ h => h
          case hybp13 =>
            refine Or.inl ⟨by rfl, ?_⟩
            intro wS hSw
            obtain ⟨z4, z0, zs, zp⟩ := hSw
            go_simp
            try with_reducible rfl
          try simp only [Act.put, List.setIfInBounds_toArray, List.set_cons_zero, List.set_cons_succ]
          refine wpAnyH_take (i := 14) (oi := ?oibp14) (v := ?vbp14) ?hibp14 (by kernel_rfl) (by kernel_rfl) (by kernel_rfl) ?hQbp14 ?hybp14 HS ?restbp14
          case hibp14 => simp only [List.getElem?_toArray, List.getElem?_cons_succ, List.getElem?_cons_zero]; exact rfl
          case hQbp14 => exact fun _ _ _ h => h
          case hybp14 =>
            refine Or.inl ⟨by rfl, ?_⟩
            intro wS hSw
            go_simp
            try with_reducible rfl
          try simp only [Act.put, List.setIfInBounds_toArray, List.set_cons_zero, List.set_cons_succ]
          refine wpAnyH_take (i := 15) (oi := ?oibp15) (v := ?vbp15) ?hibp15 (by kernel_rfl) (by kernel_rfl) (by kernel_rfl) ?hQbp15 ?hybp15 HS ?restbp15
          case hibp15 => simp only [List.getElem?_toArray, List.getElem?_cons_succ, List.getElem?_cons_zero]; exact rfl
          case hQbp15 => exact fun _ _ _ h => h
          case hybp15 =>
            refine Or.inl ⟨by rfl, ?_⟩
            intro wS hSw
            go_simp
            try with_reducible rfl
          try simp only [Act.put, List.setIfInBounds_toArray, List.set_cons_zero, List.set_cons_succ]
          refine wpAnyH_take (i := 16) (oi := ?oibp16) (v := ?vbp16) ?hibp16 (by kernel_rfl) (by kernel_rfl) (by kernel_rfl) ?hQbp16 ?hybp16 HS ?restbp16
          case hibp16 => simp only [List.getElem?_toArray, List.getElem?_cons_succ, List.getElem?_cons_zero]; exact rfl
          case hQbp16 => exact fun _ _ _ h => h
          case hybp16 =>
            refine Or.inl ⟨by rfl, ?_⟩
            intro wS hSw
            go_simp
            try with_reducible rfl
          try simp only [Act.put, List.setIfInBounds_toArray, List.set_cons_zero, List.set_cons_succ]
          refine wpAnyH_take (i := 17) (oi := ?oibp17) (v := ?vbp17) ?hibp17 (by kernel_rfl) (by kernel_rfl) (by kernel_rfl) ?hQbp17 ?hybp17 HS ?restbp17
          case hibp17 => simp only [List.getElem?_toArray, List.getElem?_cons_succ, List.getElem?_cons_zero]; exact rfl
          case hQbp17 => exact fun _ _ _ h => h
          case hybp17 =>
            refine Or.inl ⟨by rfl, ?_⟩
            intro wS hSw
            go_simp
            try with_reducible rfl
          try simp only [Act.put, List.setIfInBounds_toArray, List.set_cons_zero, List.set_cons_succ]
          refine wpAnyH_take (i := 18) (oi := ?oibp18) (v := ?vbp18) ?hibp18 (by kernel_rfl) (by kernel_rfl) (by kernel_rfl) ?hQbp18 ?hybp18 HS ?restbp18
          case hibp18 => simp only [List.getElem?_toArray, List.getElem?_cons_succ, List.getElem?_cons_zero]; exact rfl
          case hQbp18 => exact fun _ _ _ h => h
          case hybp18 =>
            refine Or.inl ⟨by rfl, ?_⟩
            intro wS hSw
            go_simp
            try with_reducible rfl
          try simp only [Act.put, List.setIfInBounds_toArray, List.set_cons_zero, List.set_cons_succ]
          refine wpAnyH_take (i := 19) (oi := ?oibp19) (v := ?vbp19) ?hibp19 (by kernel_rfl) (by kernel_rfl) (by kernel_rfl) ?hQbp19 ?hybp19 HS ?restbp19
          case hibp19 => simp only [List.getElem?_toArray, List.getElem?_cons_succ, List.getElem?_cons_zero]; exact rfl
          case hQbp19 => exact fun _ _ _ h => h
          case hybp19 =>
            refine Or.inl ⟨by rfl, ?_⟩
            intro wS hSw
            go_simp
            try with_reducible rfl
          try simp only [Act.put, List.setIfInBounds_toArray, List.set_cons_zero, List.set_cons_succ]
          refine wpAnyH_take (i := 20) (oi := ?oibp20) (v := ?vbp20) ?hibp20 (by kernel_rfl) (by kernel_rfl) (by kernel_rfl) ?hQbp20 ?hybp20 HS ?restbp20
          case hibp20 => simp only [List.getElem?_toArray, List.getElem?_cons_succ, List.getElem?_cons_zero]; exact rfl
          case hQbp20 => exact fun _ _ _ h => h
          case hybp20 =>
            refine Or.inl ⟨by rfl, ?_⟩
            intro wS hSw
            go_simp
            try with_reducible rfl
          try simp only [Act.put, List.setIfInBounds_toArray, List.set_cons_zero, List.set_cons_succ]
          refine wpAnyH_take (i := 21) (oi := ?oibp21) (v := ?vbp21) ?hibp21 (by kernel_rfl) (by kernel_rfl) (by kernel_rfl) ?hQbp21 ?hybp21 HS ?restbp21
          case hibp21 => simp only [List.getElem?_toArray, List.getElem?_cons_succ, List.getElem?_cons_zero]; exact rfl
          case hQbp21 => exact fun _ _ _ h => h
          case hybp21 =>
            refine Or.inl ⟨by rfl, ?_⟩
            intro wS hSw
            go_simp
            try with_reducible rfl
          try simp only [Act.put, List.setIfInBounds_toArray, List.set_cons_zero, List.set_cons_succ]
          refine wpAnyH_take (i := 22) (oi := ?oibp22) (v := ?vbp22) ?hibp22 (by kernel_rfl) (by kernel_rfl) (by kernel_rfl) ?hQbp22 ?hybp22 HS ?restbp22
          case hibp22 => simp only [List.getElem?_toArray, List.getElem?_cons_succ, List.getElem?_cons_zero]; exact rfl
          case hQbp22 => exact fun _ _ _ h => h
          case hybp22 =>
            refine Or.inl ⟨by rfl, ?_⟩
            intro wS hSw
            obtain ⟨z4, z0, zs, zp⟩ := hSw
            go_simp
            try with_reducible rfl
          try simp only [Act.put, List.setIfInBounds_toArray, List.set_cons_zero, List.set_cons_succ]
          refine wpAnyH_take (i := 23) (oi := ?oibp23) (v := ?vbp23) ?hibp23 (by kernel_rfl) (by kernel_rfl) (by kernel_rfl) ?hQbp23 ?hybp23 HS ?restbp23
          case hibp23 => simp only [List.getElem?_toArray, List.getElem?_cons_succ, List.getElem?_cons_zero]; exact rfl
          case hQbp23 => exact fun _ _ _ h => h
          case hybp23 =>
            refine Or.inl ⟨by rfl, ?_⟩
            intro wS hSw
            obtain ⟨z4, z0, zs, zp⟩ := hSw
            go_simp
            try with_reducible rfl
          try simp only [Act.put, List.setIfInBounds_toArray, List.set_cons_zero, List.set_cons_succ]
          refine wpAnyH_take (i := 24) (oi := ?oibp24) (v := ?vbp24) ?hibp24 (by kernel_rfl) (by kernel_rfl) (by kernel_rfl) ?hQbp24 ?hybp24 HS ?restbp24
          case hibp24 => simp only [List.getElem?_toArray, List.getElem?_cons_succ, List.getElem?_cons_zero]; exact rfl
          case hQbp24 => exact fun _ _ _ h => h
          case hybp24 =>
            refine Or.inl ⟨by rfl, ?_⟩
            intro wS hSw
            obtain ⟨z4, z0, zs, zp⟩ := hSw
            go_simp
            try with_reducible rfl
          try simp only [Act.put, List.setIfInBounds_toArray, List.set_cons_zero, List.set_cons_succ]
          refine wpAnyH_take (i := 25) (oi := ?oibp25) (v := ?vbp25) ?hibp25 (by kernel_rfl) (by kernel_rfl) (by kernel_rfl) ?hQbp25 ?hybp25 HS ?restbp25
          case hibp25 => simp only [List.getElem?_toArray, List.getElem?_cons_succ, List.getElem?_cons_zero]; exact rfl
          case hQbp25 => exact fun _ _ _ h => h
          case hybp25 =>
            refine Or.inl ⟨by rfl, ?_⟩
            intro wS hSw
            obtain ⟨z4, z0, zs, zp⟩ := hSw
            go_simp
            try with_reducible rfl
          try simp only [Act.put, List.setIfInBounds_toArray, List.set_cons_zero, List.set_cons_succ]
          refine wpAnyH_take (i := 26) (oi := ?oibp26) (v := ?vbp26) ?hibp26 (by kernel_rfl) (by kernel_rfl) (by kernel_rfl) ?hQbp26 ?hybp26 HS ?restbp26
          case hibp26 => simp only [List.getElem?_toArray, List.getElem?_cons_succ, List.getElem?_cons_zero]; exact rfl
          case hQbp26 => exact fun _ _ _ h => h
          case hybp26 =>
            refine Or.inl ⟨by rfl, ?_⟩
            intro wS hSw
            obtain ⟨z4, z0, zs, zp⟩ := hSw
            go_simp
            try with_reducible rfl
          try simp only [Act.put, List.setIfInBounds_toArray, List.set_cons_zero, List.set_cons_succ]
          refine wpAnyH_take (i := 27) (oi := ?oibp27) (v := ?vbp27) ?hibp27 (by kernel_rfl) (by kernel_rfl) (by kernel_rfl) ?hQbp27 ?hybp27 HS ?restbp27
          case hibp27 => simp only [List.getElem?_toArray, List.getElem?_cons_succ, List.getElem?_cons_zero]; exact rfl
          case hQbp27 => exact fun _ _ _ h => h
          case hybp27 =>
            refine Or.inl ⟨by rfl, ?_⟩
            intro wS hSw
            go_simp
            try with_reducible rfl
          try simp only [Act.put, List.setIfInBounds_toArray, List.set_cons_zero, List.set_cons_succ]
          refine wpAnyH_take (i := 28) (oi := ?oibp28) (v := ?vbp28) ?hibp28 (by kernel_rfl) (by kernel_rfl) (by kernel_rfl) ?hQbp28 ?hybp28 HS ?restbp28
          case hibp28 => simp only [List.getElem?_toArray, List.getElem?_cons_succ, List.getElem?_cons_zero]; exact rfl
          case hQbp28 => exact fun _ _ _ h => h
          case hybp28 =>
            refine Or.inl ⟨by rfl, ?_⟩
            intro wS hSw
            go_simp
            try with_reducible rfl
          try simp only [Act.put, List.setIfInBounds_toArray, List.set_cons_zero, List.set_cons_succ]
          refine wpAnyH_take (i := 29) (oi := ?oibp29) (v := ?vbp29) ?hibp29 (by kernel_rfl) (by kernel_rfl) (by kernel_rfl) ?hQbp29 ?hybp29 HS ?restbp29
          case hibp29 => simp only [List.getElem?_toArray, List.getElem?_cons_succ, List.getElem?_cons_zero]; exact rfl
          case hQbp29 => exact fun _ _ _ h => h
          case hybp29 =>
            refine Or.inl ⟨by rfl, ?_⟩
            intro wS hSw
            go_simp
            try with_reducible rfl
          try simp only [Act.put, List.setIfInBounds_toArray, List.set_cons_zero, List.set_cons_succ]
          refine wpAnyH_done (by kernel_rfl) ?_ _
          have HQ3 := hid (HQ2.out.go (TS.ok _ _ _ _ _ _ _ _ _ _) ((Below.refl _ _).drew))
          have HP3 : Hid (BRow 90 (wr.alloc (.cells (#[.string (str x.nm), .int .i64 x.k.t, .int .i64 x.k.c, .int .i64 x.k.e, .int .i64 (i : Int), .int .i64 x.p.k.t, .int .i64 x.p.k.c, .int .i64 x.p.k.e, .int .i64 x.p.id, .int .i64 x.p.ver, .int .i64 x.sz]) 90)).drew w6.heap.size _ k7 L') := hid (World.ownsRow.below HP2.out ((Below.refl _ _).drew))
          have HS3 := hid (HS2.out.keep (w' := (wr.alloc (.cells (#[.string (str x.nm), .int .i64 x.k.t, .int .i64 x.k.c, .int .i64 x.k.e, .int .i64 (i : Int), .int .i64 x.p.k.t, .int .i64 x.p.k.c, .int .i64 x.p.k.e, .int .i64 x.p.id, .int .i64 x.p.ver, .int .i64 x.sz]) 90)).drew) rfl)
          obtain ⟨y4, y0, ys, -⟩ := HS
          clear HQ2 HP2 HS2
          generalize (wr.alloc (.cells (#[.string (str x.nm), .int .i64 x.k.t, .int .i64 x.k.c, .int .i64 x.k.e, .int .i64 (i : Int), .int .i64 x.p.k.t, .int .i64 x.p.k.c, .int .i64 x.p.k.e, .int .i64 x.p.id, .int .i64 x.p.ver, .int .i64 x.sz]) 90)).drew = w12 at *
          have hfr := HS3.out.frozen i
          go_wp2_with fail
          have hg := grown_setCell w12 sn i (.bool true)
          go_roundg (m - (k + 1))
          case measure => exact meas_jb hgk2.out HKM.out
          case rel => exact ⟨k + 1, by first | rfl | rw [wk], hid rfl, hid HKM.out, hid (HQ3.out.grew (TS.ok _ _ _ _ _ _ _ _ _ _) hg (fun q hq => by injection hq with hq; exact .inr hq.symm) (fun q hq => .inl hq)), hid (HP3.out.keep fun q hq => hg.block q (own_lt HP3.out q hq) (fun e => by injection e with e; have h1 := HLA.out q hq; rw [e] at h1; exact absurd h1 (Nat.lt_irrefl _))), hid (by
            have h1 := HS3.out.store i (.bool true)
            have h2 : (sbs L' k).toArray.setIfInBounds i (.bool true) = (sbs L' (k + 1)).toArray := by
              apply Array.toList_inj.1
              rw [Array.toList_setIfInBounds, List.toList_toArray, List.toList_toArray, HST.out]
            rwa [h2] at h1)⟩
      · have hkm : k = m := by have := hk.out; omega
        subst hkm
        have k2 : ¬ (k : Int) < (k : Int) := by omega
        have HQE := hid (hQ.out.less (Y := fun _ => False) fun x hx => hx.elim)
        clear hge2 hk hgk2
        go_wp2_with fail
        go_roundg (n - (j + 1))
        case measure => exact meas_jb hgk.out HJN.out
        case rel =>
          obtain ⟨hv', hhv⟩ := HHV8.out
          exact ⟨j + 1, d', v', c', L', hv', by first | rfl | rw [wj], hid rfl, hid HJN.out, HSI8, hid hhv, hid ⟨HVV.out.2.1, HVV.out.2.2.1, HVV.out.2.2.2.1, HVV.out.1, HVV.out.2.2.2.2, rm_25 HJ20.out⟩, HQE⟩
  · have hjn : j = n := by have := hj.out; omega
    subst hjn
    have j2 : ¬ (j : Int) < (j : Int) := by omega
    clear hge hj hgk
    go_wp2
    go_ret
    exact ⟨rfl, hV.out.below⟩
end Go.Proofs.YtdkbpjkoiegflaaGreat
