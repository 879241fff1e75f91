/- The walk of VaultPlays: for every input the law answers true. -/
import Derived.Test.YtaailoodhaibiaaVrTwin
import Derived.BigQuiet
import Derived.Deep.DeepCutAuto
import Derived.Deep.CutBlock
namespace Go.Proofs.Ytaailoodhaibiaa
open Go.RowKit

/-- A row of n operations at A, the bytes of each within what memory bears. -/
def OpsZ (w : World) (hi : Nat) (A : Option Addr) (n : Nat) : Prop := ∀ j, j < n → ∃ b off o, A = some ⟨b, off, none⟩ ∧ b < hi ∧ w.rangeAt b (off + j * 7) (OpW.cells o) ∧ o.ok w hi ∧ o.n ≤ 140737488351232
theorem op_cells {wr : World} {g : Nat} {o : OpW} (h : Blk wr g 36 #[.int .i64 (o).kind, .int .i64 (o).k.t, .int .i64 (o).k.c, .int .i64 (o).k.e, .string (str (o).b), .slice (o).A (o).n (o).c, .int .u64 ((o).H : Int)]) : wr.cell? ⟨g, 0, none⟩ = some (.int .i64 o.kind) ∧ wr.cell? ⟨g, 1, none⟩ = some (.int .i64 o.k.t) ∧ wr.cell? ⟨g, 2, none⟩ = some (.int .i64 o.k.c) ∧ wr.cell? ⟨g, 3, none⟩ = some (.int .i64 o.k.e) ∧ wr.cell? ⟨g, 4, none⟩ = some (.string (str o.b)) ∧ wr.cell? ⟨g, 5, none⟩ = some (.slice o.A o.n o.c) ∧ wr.cell? ⟨g, 6, none⟩ = some (.int .u64 (o.H : Int)) :=
  ⟨by simpa using h.cell 0, by simpa using h.cell 1, by simpa using h.cell 2, by simpa using h.cell 3, by simpa using h.cell 4, by simpa using h.cell 5, by simpa using h.cell 6⟩
theorem Try.infoOp1 : (Try.prog.info? 36).map (·.size) = some 7 := by kernel_rfl
theorem under_far (w wr : World) (g e : Nat) (s t : Va) (X : Nat → Prop) (h : VTw w wr g e s t X) (hL : s.L.length ≤ 1000000) :
    Calls Try.prog 14 #[.pointer (some ⟨g, 0, none⟩), .int .u64 9223372036854775808] wr fun e w' => ∃ k : Ky, e = .returned (.tuple #[(.agg #[.int .i64 (k).t, .int .i64 (k).c, .int .i64 (k).e]), .bool false]) ∧ Below wr.heap.size wr w' := by
  refine (under_tw w wr g e s t X h 9223372036854775808 9223372036854775808 rfl (by decide)).mono ?_
  rintro e w' ⟨rfl, hb⟩
  refine ⟨uK s 9223372036854775808, ?_, hb⟩
  rw [decide_eq_false (by omega)]
theorem drewN_below (w : World) (n : Nat) : Below w.heap.size w (w.drewN n) := ⟨rfl, rfl, rfl, Nat.le_refl _, fun _ _ => rfl⟩

set_option maxRecDepth 20000 in
set_option maxHeartbeats 16000000 in
theorem vplays_core (A : Option Addr) (n c : Nat) (w : World) (hops : OpsZ w w.heap.size A n) (hn : n ≤ 9223372036854775807) :
    Calls Try.prog 3 #[.slice A n c] w fun e w' => e = .returned (.bool true) ∧ Below w.heap.size w w' := by
  have HOPS := hid hops
  have HN := hid hn
  clear hops hn
  go_enter Try.func3, Try.ntmps3
  go_wp2_with fail
  refine (vfirst_c w).mono ?_
  rintro e w1 ⟨rfl, hb1⟩
  have HB1 := hid hb1
  clear hb1
  go_wp2_with fail
  refine (vnew_c w1).mono ?_
  rintro e w2 ⟨g, F2, rfl, hd2, hb2, hF2⟩
  have HT3 : Hid (VTw w (w2.alloc (.cells #[.slice none 0 0, .slice none 0 0] 30)) g w2.heap.size Va.new Va.new (fun _ => False)) := hid (by
    have s1 := HB1.out.size
    have s2 := hb2.size
    have hba : Below w2.heap.size w2 (w2.alloc (.cells #[.slice none 0 0, .slice none 0 0] 30)) := (Below.refl _ _).alloc (Nat.le_refl _) _
    exact ⟨F2, fun j => j = w2.heap.size, hd2.bel hba, RVt.new w2, fun j h1 h2 => by have := hd2.lt j h1; omega, fun j hj => by have := hF2 j hj; omega, fun j hj => by omega, (HB1.out.trans (hb2.mono s1)).trans (hba.mono (by omega)), fun x hx => hx.elim⟩)
  clear hd2 hb2 hF2 HB1
  go_wp2_with fail
  generalize w2.heap.size = ge at *
  go_loopg [31] n (fun k iv wr => ∃ (j : Nat) (s t : Va), iv = .int .i64 (j : Int) ∧ Hid (k = n - j) ∧ Hid (j ≤ n) ∧ Hid (j ≤ 60) ∧ Hid (Sim s t) ∧ Hid (s.L.length ≤ j) ∧ Hid (s.G.length ≤ j) ∧ Hid (VTw w wr g ge s t (fun _ => False)))
  case atStart => exact ⟨0, Va.new, Va.new, rfl, hid (by omega), hid (Nat.zero_le _), hid (by decide), hid Sim.new, hid (Nat.le_refl _), hid (Nat.le_refl _), HT3⟩
  case round =>
  obtain ⟨j, s, t, rfl, hgk, hj, hj60, hS, hsL, hsG, hT⟩ := hrel
  clear HT3
  rcases Nat.lt_or_ge j n with hlt | hge
  · have HLT := hid hlt
    obtain ⟨b, off, o, rfl, hbl, hR0, hO0, hZ0⟩ := HOPS.out j hlt
    have HO := hid hO0
    have HZ := hid hZ0
    have HR := hid (rangeAt_keep hR0 (hT.out.below.block b hbl))
    have j1 : (0 : Int) ≤ (j : Int) := by omega
    have j2 : (j : Int) < (n : Int) := by omega
    have j3 : decide ((j : Int) < (n : Int)) = true := by simpa using hlt
    have j4 : decide (j < n) = true := by simpa using hlt
    have wj : wrap64 ((j : Int) + 1) = ((j + 1 : Nat) : Int) := by have := HN.out; unfold wrap64; omega
    clear hR0 hO0 hbl hZ0
    have hbo : Below wr.heap.size wr (wr.alloc (.cells #[.int .i64 (o).kind, .int .i64 (o).k.t, .int .i64 (o).k.c, .int .i64 (o).k.e, .string (str (o).b), .slice (o).A (o).n (o).c, .int .u64 ((o).H : Int)] 36)) := (Below.refl _ _).alloc (Nat.le_refl _) _
    have HT2 : Hid (VTw w (wr.alloc (.cells #[.int .i64 (o).kind, .int .i64 (o).k.t, .int .i64 (o).k.c, .int .i64 (o).k.e, .string (str (o).b), .slice (o).A (o).n (o).c, .int .u64 ((o).H : Int)] 36)) g ge s t (fun x => False ∨ x = wr.heap.size)) := hid (hT.out.add hbo (fun x => x = wr.heap.size) (fun x hx => by subst hx; simp))
    have HK2 := hid (Blk.new wr 36 #[.int .i64 (o).kind, .int .i64 (o).k.t, .int .i64 (o).k.c, .int .i64 (o).k.e, .string (str (o).b), .slice (o).A (o).n (o).c, .int .u64 ((o).H : Int)])
    clear hbo hT hlt
    as_aux_lemma =>
    go_upto_region 7 with (refine wpList_load_mid rfl 36 _ rfl b (off + j * 7) rfl [.int .i64 o.kind, .int .i64 o.k.t, .int .i64 o.k.c, .int .i64 o.k.e, .string (str o.b), .slice o.A o.n o.c, .int .u64 (o.H : Int)] _ HR.out Try.underlying36 rfl Try.infoOp1 ?_)
    generalize wr.alloc (.cells #[.int .i64 (o).kind, .int .i64 (o).k.t, .int .i64 (o).k.c, .int .i64 (o).k.e, .string (str (o).b), .slice (o).A (o).n (o).c, .int .u64 ((o).H : Int)] 36) = w2 at *
    generalize wr.heap.size = v at *
    obtain ⟨x0, x1, x2, x3, x4, x5, x6⟩ := op_cells HK2.out
    clear HR
    by_cases hbr : 60 ≤ j ∨ 300 < (str o.b).size ∨ (300 < o.n ∧ o.n ≤ 65536)
    · have ht : decide ((60 : Int) ≤ (j : Int)) = true ∨ (decide ((60 : Int) ≤ (j : Int)) = false ∧ decide ((300 : Int) < ((str o.b).size : Int)) = true) ∨ (decide ((60 : Int) ≤ (j : Int)) = false ∧ decide ((300 : Int) < ((str o.b).size : Int)) = false ∧ decide ((300 : Int) < (o.n : Int)) = true ∧ decide ((o.n : Int) ≤ (65536 : Int)) = true) := by
        simp only [decide_eq_true_eq, decide_eq_false_iff_not]
        omega
      have hc := under_far w w2 g ge s t _ HT2.out (by have := hsL.out; have := hj60.out; omega)
      clear hbr
      rcases ht with e1 | ⟨e1, e2⟩ | ⟨e1, e2, e3, e4⟩
      all_goals
        as_aux_lemma =>
        go_wp2_with fail
        refine hc.mono ?_
        rintro e w' ⟨k', rfl, hb'⟩
        have HBX := hid (((HT2.out.bel hb').bel (wr' := w'.alloc (.cells #[.int .i64 k'.t, .int .i64 k'.c, .int .i64 k'.e] 32)) ((Below.refl _ _).alloc (Nat.le_refl _) _)).below)
        clear hc hb'
        go_wp2
        go_ret
        exact ⟨rfl, HBX.out⟩
    have e1 : decide ((60 : Int) ≤ (j : Int)) = false := by simp; omega
    have e2 : decide ((300 : Int) < ((str o.b).size : Int)) = false := by simp; omega
    have HJ : Hid (j < 60) := hid (by omega)
    have e34 : decide ((300 : Int) < (o.n : Int)) = false ∨ (decide ((300 : Int) < (o.n : Int)) = true ∧ decide ((o.n : Int) ≤ (65536 : Int)) = false) := by
      simp only [decide_eq_true_eq, decide_eq_false_iff_not]
      omega
    clear hbr
    have O0 : Hid ((w2.alloc (.cells #[] 5)).ownsRow w2.heap.size 5 1 (.slice (some ⟨w2.heap.size, 0, none⟩) 0 0) 0 []) := hid (own_empty w2 5 1 _ (Nat.le_refl _))
    have B0 : Hid (Below w2.heap.size w2 (w2.alloc (.cells #[] 5))) := hid ((Below.refl _ _).alloc (Nat.le_refl _) _)
    have hs0 : (w2.alloc (.cells #[] 5)).heap.size = w2.heap.size + 1 := by simp
    have v5 : (w2.alloc (.cells #[] 5)).cell? ⟨v, 5, none⟩ = some (.slice o.A o.n o.c) := (World.cell?_of_block (B0.out.block v HK2.out.lt)).trans x5
    have BL : Hid (Lst (w2.alloc (.cells #[] 5)) 0 w.heap.size o.A o.n (bs o.p)) := hid ((HO.out.p.below (HT2.out.below.trans (B0.out.mono HT2.out.below.size)) (Nat.le_refl _)).lst)
    go_cut [55] (fun s55 wx => s55 = .bool false ∧ Hid (wx = w2))
    case first =>
      rcases e34 with e3 | ⟨e3, e4⟩
      all_goals
        as_aux_lemma =>
        go_wp2_with fail
        go_meet
        case rel => exact ⟨rfl, hid rfl⟩
    case rest =>
    obtain ⟨rfl, hwc⟩ := hcut
    obtain rfl : w2 = wc := hwc.out.symm
    clear e34 hwc e1 e2
    go_upto_block 2 with (at_builtin; refine wpList_appL _ rfl _ _ 33 rfl w2.heap.size 5 (.int .u8 0) 1 Try.underlying33 Try.infoU8 rfl _ 0 0 [] rfl O0.out 0 w.heap.size o.A o.n o.c (bs o.p) rfl BL.out (bs_one _) (by have := HZ.out; omega) (by have := HZ.out; unfold maxLen; omega) (by rw [hs0]; omega) ?_)
    intro A6 c6 w6 hc6 ho6 hg6 hb6 hs6
    have HW6 : Hid (Below w2.heap.size w2 w6) := hid (B0.out.trans hb6)
    have hX6 : ∀ x, A6.map (·.block) = some x → w2.heap.size ≤ x ∧ x < w6.heap.size := fun x hx => ⟨own_ge ho6 x hx, own_lt ho6 x hx⟩
    have HT6 : Hid (VTw w w6 g ge s t (fun x => x = v ∨ A6.map (·.block) = some x)) := hid ((HT2.out.add HW6.out _ hX6).less (fun x hx => by rcases hx with e | e; exact .inl (.inr e); exact .inr e))
    have ho6' : w6.ownsRow w2.heap.size 5 1 (.slice A6 o.n c6) o.n (bs o.p) := by simpa using ho6
    have HO6 := hid ho6'
    have HK6 := hid (HK2.out.keep (HW6.out.block v HK2.out.lt))
    have HVL : Hid (v < w2.heap.size) := hid HK2.out.lt
    obtain ⟨y0, y1, y2, y3, y4, y5, y6⟩ := op_cells HK6.out
    obtain ⟨kd, hkd, hkdw⟩ := kmod3 o.kind
    have HKD := hid hkd
    have HLs : Hid (s.L.length ≤ 1000000) := hid (by have := hsL.out; have := HJ.out; omega)
    have HGs : Hid (s.G.length ≤ 1000000) := hid (by have := hsG.out; have := HJ.out; omega)
    have HLt : Hid (t.L.length ≤ 1000000) := hid (by rw [← hS.out.len]; exact HLs.out)
    have HGt : Hid (t.G.length ≤ 1000000) := hid (by rw [← hS.out.G]; exact HGs.out)
    have HOL : Hid (o.p.length = o.n) := hid HO.out.p.len
    clear ho6 ho6' hg6 hb6 hs6 hc6 hX6 O0 B0 hs0 v5 BL x0 x1 x2 x3 x4 x5 x6 HT2 HK2 hkd
    try rw [Nat.zero_add]
    go_upto_block 2 with fail
    go_cut [] (fun wx => ∃ (s' t' : Va), Hid (VTw w wx g ge s' t' (fun x => x = v ∨ A6.map (·.block) = some x)) ∧ Hid (Sim s' t') ∧ Hid (s'.L.length ≤ j + 1) ∧ Hid (s'.G.length ≤ j + 1) ∧ Hid (∀ x, (x = v ∨ A6.map (·.block) = some x) → wx.heap[x]? = w6.heap[x]?))
    case first =>
      have hcases : kd = 0 ∨ kd = 1 ∨ kd = 2 := by have := HKD.out; omega
      rcases hcases with rfl | rfl | rfl
      · as_aux_lemma =>
        obtain ⟨F, hd, -, -, hone⟩ := HT6.out.one
        have HONE := hid hone
        have hc := seal_any w6 F g s hd o.k HO.out.k o.b A6 o.n c6 o.p ((Bts.own HO6.out).wide (Nat.zero_le _) (Nat.le_refl _)) HLs.out
        clear hd hone
        go_wp2_with fail
        refine hc.mono ?_
        rintro e w7 ⟨rfl, hL⟩
        obtain ⟨t7, -, k7⟩ := HONE.out w7 _ hL
        obtain ⟨G, hd, -, -, htwo⟩ := t7.two
        have HTWO := hid htwo
        have K7 := hid k7
        have HKB7 := hid (HK6.out.keep (k7 v (.inl rfl)))
        have hcv := run_str (P := Try.prog) (c := o.c) 33 9 5 Try.underlying33 Try.underlying5 Try.underlying9 (HO.out.p.below t7.below (Nat.le_refl _))
        have hc2 := rseal_c w7 G ge t hd o.k o.b o.p HGt.out HLt.out
        rw [← hS.out.seE, ← hS.out.seH] at hc2
        clear hd htwo hL HONE t7 k7 hc y0 y1 y2 y3 y4 y5 y6
        obtain ⟨y0, y1, y2, y3, y4, y5, y6⟩ := op_cells HKB7.out
        go_wp2_with fail
        refine hc2.mono ?_
        rintro e w8 ⟨rfl, hL⟩
        obtain ⟨t8, -, k8⟩ := HTWO.out w8 _ hL
        have T8 := hid t8
        have K8 := hid (fun x hx => (k8 x hx).trans (K7.out x hx))
        clear hL HTWO t8 k8 K7 hc2 hcv y0 y1 y2 y3 y4 y5 y6
        generalize seE s o.k o.p.length = ev at *
        generalize ((seH s o.k o.p.length : Nat) : Int) = hv at *
        have n1 : (hv != hv) = false := by simp
        have n2 : (ev != ev) = false := by simp
        go_wp2_with fail
        go_meet
        case rel => exact ⟨_, _, T8, hid (hS.out.seS o.k o.b o.p), hid (by have := (seS_L s o.k o.b o.p).1; have := hsL.out; omega), hid (by rw [(seS_L s o.k o.b o.p).2]; have := hsG.out; omega), K8⟩
      · as_aux_lemma =>
        obtain ⟨F, hd, -, -, -⟩ := HT6.out.one
        have hc := open_any w6 F g s hd o.k HO.out.k o.b (o.H : Int) o.H rfl HO.out.H
        clear hd
        go_wp2_with fail
        refine hc.mono ?_
        rintro e w7 ⟨A8, n8, c8, rfl, ho8, hn8, hb8⟩
        have hX8 : ∀ x, A8.map (·.block) = some x → w6.heap.size ≤ x ∧ x < w7.heap.size := fun x hx => ⟨own_ge ho8 x hx, own_lt ho8 x hx⟩
        have HT7 := hid (HT6.out.add hb8 (fun x => A8.map (·.block) = some x) hX8)
        have K7 : Hid (∀ x, (x = v ∨ A6.map (·.block) = some x) → w7.heap[x]? = w6.heap[x]?) := hid (fun x hx => hb8.block x (HT6.out.lt hx))
        have HKB7 := hid (HK6.out.keep (K7.out v (.inl rfl)))
        obtain ⟨G, hd, -, -, -⟩ := HT7.out.two
        have hc2 := ropen_c w7 G ge t hd o.k o.b (o.H : Int) o.H rfl HGt.out HLt.out
        rw [← hS.out.opE, ← hS.out.opB] at hc2
        have HO8 := hid ho8
        have HN8 := hid hn8
        clear hd hX8 hb8 hc ho8 hn8 y0 y1 y2 y3 y4 y5 y6
        obtain ⟨y0, y1, y2, y3, y4, y5, y6⟩ := op_cells HKB7.out
        go_wp2_with fail
        refine hc2.mono ?_
        rintro e w8 ⟨rfl, hb9⟩
        have HT8 := hid (HT7.out.bel hb9)
        have K8 : Hid (∀ x, (x = v ∨ A6.map (·.block) = some x) → w8.heap[x]? = w6.heap[x]?) := hid (fun x hx => (hb9.block x (HT7.out.lt (.inl hx))).trans (K7.out x hx))
        have ho9 : w8.ownsRow w6.heap.size 5 1 (.slice A8 n8 c8) n8 (bs (opB s o.k o.b o.H)) := own_keep HO8.out fun d hd => hb9.block d (own_lt HO8.out d hd)
        have HO9 := hid ho9
        have hcv := own_str ho9 (c := c8)
        have HL8 : Hid ((opB s o.k o.b o.H).length = n8) := hid (Bts.own (l := opB s o.k o.b o.H) ho9).len
        clear hc2 hb9 ho9 HO8 HT7 K7 HKB7 y0 y1 y2 y3 y4 y5 y6
        generalize opB s o.k o.b o.H = z8 at *
        generalize opE s o.k o.b o.H = e8 at *
        have hse2 : ((str z8).toList == (str z8).toList) = true := by simp
        have hee : (e8 != e8) = false := by simp
        have HS6 : Hid (∀ x, (x = v ∨ A6.map (·.block) = some x) → x < w6.heap.size) := hid (fun x hx => HT6.out.lt hx)
        go_wp2_with fail
        clear hcv hse2 hee
        go_loopg [146] n8 (fun k iv wr' => ∃ (p : Nat) (zs : List UInt8), iv = .int .i64 (p : Int) ∧ Hid (k = n8 - p) ∧ Hid (p ≤ n8) ∧ Hid (zs.length = n8) ∧ Hid (wr'.ownsRow w6.heap.size 5 1 (.slice A8 n8 c8) n8 (bs zs)) ∧ Hid (VTw w wr' g ge s t (fun x => (x = v ∨ A6.map (·.block) = some x) ∨ A8.map (·.block) = some x)) ∧ Hid (∀ x, (x = v ∨ A6.map (·.block) = some x) → wr'.heap[x]? = w6.heap[x]?))
        case atStart => exact ⟨0, z8, rfl, hid (by omega), hid (Nat.zero_le _), HL8, HO9, HT8, K8⟩
        case round =>
          obtain ⟨p, zs, rfl, hgp, hp, hzs, hzo, hzT, hzK⟩ := hrel
          clear HL8 HO9 HT8 K8
          rcases Nat.lt_or_ge p n8 with hpl | hpg
          · as_aux_lemma =>
            obtain ⟨ab, bb, rfl, hab, a1, a2, hst⟩ := inv_own hzo.out hzs.out hpl
            have q1 : (0 : Int) ≤ (p : Int) := by omega
            have q2 : (p : Int) < (n8 : Int) := by omega
            have q3 : decide ((p : Int) < (n8 : Int)) = true := by simpa using hpl
            have q4 : decide (p < n8) = true := by simpa using hpl
            have wp : wrap64 ((p : Int) + 1) = ((p + 1 : Nat) : Int) := by have := HN8.out; clear wj; unfold wrap64; omega
            have xq := xor255 bb
            have HST := hid (hst (255 - bb))
            have HTS := hid (hzT.out.set (.inr rfl) p (.int .u8 ((255 - bb).toNat : Int)))
            have HKS : Hid (∀ x, (x = v ∨ A6.map (·.block) = some x) → (wr.setCell ⟨ab, p, none⟩ (.int .u8 ((255 - bb).toNat : Int))).heap[x]? = w6.heap[x]?) := hid (fun x hx => ((grown_setCell wr ab p _).block x (hzT.out.lt (.inl hx)) (fun e => by injection e with e; have := HS6.out x hx; omega)).trans (hzK.out x hx))
            have HLS : Hid ((zs.set p (255 - bb)).length = n8) := hid (by simpa using hzs.out)
            clear hst hab hzo hzT hzK hzs
            go_wp2
            go_roundg (n8 - (p + 1))
            case measure => have := hgp.out; omega
            case rel => exact ⟨p + 1, zs.set p (255 - bb), congrArg (Value.int .i64) (by first | exact wp | omega | rfl), hid rfl, hid (by omega), HLS, HST, HTS, HKS⟩
          · as_aux_lemma =>
            have q3' : decide ((p : Int) < (n8 : Int)) = false := by simp; omega
            have q4 : decide (p < n8) = false := by simp; omega
            have HT12 := hid (hzT.out.less (Y := (fun x => x = v ∨ A6.map (·.block) = some x)) (fun x hx => .inl hx))
            clear hzs hzo hgp hp hpg hzT
            go_wp2_with fail
            go_meet
            case rel => exact ⟨s, t, HT12, hS, hid (by have := hsL.out; omega), hid (by have := hsG.out; omega), hzK⟩
      · as_aux_lemma =>
        obtain ⟨F, hd, -, -, hone⟩ := HT6.out.one
        have HONE := hid hone
        have hc := destroy_any w6 F g s hd o.k HO.out.k HLs.out HGs.out
        clear hd hone
        go_wp2_with fail
        refine hc.mono ?_
        rintro e w7 ⟨rfl, hL⟩
        obtain ⟨t7, -, k7⟩ := HONE.out w7 _ hL
        obtain ⟨A9, c9, B9, d9, hb9, hr9, hB9, hX9, hgo⟩ := t7.gone2 o.k
        have HGO := hid hgo
        have HR9 := hid hr9
        have HE9 := hid hb9
        have HB9 : Hid (∀ x, B9.map (·.block) = some x → x ≠ ge ∧ x ≠ v) := hid (fun x hx => ⟨(hB9 x hx).1, fun e => (hB9 x hx).2 (.inl e)⟩)
        have HVE : Hid (v ≠ ge) := hid (hX9 v (.inl rfl))
        have K7 := hid k7
        have HKB7 := hid (HK6.out.keep (k7 v (.inl rfl)))
        have HVW : Hid (v < w7.heap.size) := hid HKB7.out.lt
        have HEW : Hid (ge < w7.heap.size) := hid HE9.out.lt
        have yd : w7.cell? ⟨ge, 1, none⟩ = some (.slice B9 t.G.length d9) := by simpa using hb9.cell 1
        clear hL HONE t7 k7 hc y0 y1 y2 y3 y4 y5 y6 hb9 hr9 hB9 hX9 hgo
        obtain ⟨y0, y1, y2, y3, y4, y5, y6⟩ := op_cells HKB7.out
        go_wp2_with fail
        clear y0 y1 y2 y3 y4 y5 y6
        generalize hNN : t.G.length = NG at *
        have HNG := hid hNN
        clear hNN
        refine wp_region_held_drew (S := fun wx => wx.heap[v]? = w7.heap[v]?) (by kernel_rfl) rfl (fun HS => ?_)
        refine wpAnyH_take (i := 0) (oi := ?oik0) (v := ?vk0) ?hik0 (by kernel_rfl) (by kernel_rfl) (by kernel_rfl) ?hQk0 ?hyk0 HS ?restk0
        case hik0 => simp only [List.getElem?_toArray, List.getElem?_cons_zero]; exact rfl
        case hQk0 => exact fun _ _ _ h => h
        case hyk0 =>
          refine Or.inl ⟨by rfl, ?_⟩
          intro wS hSw
          go_simp
          try with_reducible rfl
        try simp only [Act.put, List.setIfInBounds_toArray, List.set_cons_zero, List.set_cons_succ]
        refine wpAnyH_take (i := 1) (oi := ?oik1) (v := ?vk1) ?hik1 (by kernel_rfl) (by kernel_rfl) (by kernel_rfl) ?hQk1 ?hyk1 HS ?restk1
        case hik1 => simp only [List.getElem?_toArray, List.getElem?_cons_succ, List.getElem?_cons_zero]; exact rfl
        case hQk1 => exact fun _ _ _ h => h
        case hyk1 =>
          refine Or.inl ⟨by rfl, ?_⟩
          intro wS hSw
          go_simp
          try with_reducible rfl
        try simp only [Act.put, List.setIfInBounds_toArray, List.set_cons_zero, List.set_cons_succ]
        refine wpAnyH_take (i := 2) (oi := ?oik2) (v := ?vk2) ?hik2 (by kernel_rfl) (by kernel_rfl) (by kernel_rfl) ?hQk2 ?hyk2 HS ?restk2
        case hik2 => simp only [List.getElem?_toArray, List.getElem?_cons_succ, List.getElem?_cons_zero]; exact rfl
        case hQk2 => exact fun _ _ _ h => h
        case hyk2 =>
          refine Or.inl ⟨by rfl, ?_⟩
          intro wS hSw
          go_simp
          try with_reducible rfl
        try simp only [Act.put, List.setIfInBounds_toArray, List.set_cons_zero, List.set_cons_succ]
        refine wpAnyH_take (i := 3) (oi := ?oik3) (v := ?vk3) ?hik3 (by kernel_rfl) (by kernel_rfl) (by kernel_rfl) ?hQk3 ?hyk3 HS ?restk3
        case hik3 => simp only [List.getElem?_toArray, List.getElem?_cons_succ, List.getElem?_cons_zero]; exact rfl
        case hQk3 => exact fun _ _ _ h => h
        case hyk3 =>
          refine Or.inl ⟨by rfl, ?_⟩
          intro wS hSw
          go_simp
          try with_reducible rfl
        try simp only [Act.put, List.setIfInBounds_toArray, List.set_cons_zero, List.set_cons_succ]
        refine wpAnyH_take (i := 5) (oi := ?oik5) (v := ?vk5) ?hik5 (by kernel_rfl) (by kernel_rfl) (by kernel_rfl) ?hQk5 ?hyk5 HS ?restk5
        case hik5 => simp only [List.getElem?_toArray, List.getElem?_cons_succ, List.getElem?_cons_zero]; exact rfl
        case hQk5 => exact fun _ _ _ h => h
        case hyk5 =>
          refine Or.inl ⟨by rfl, ?_⟩
          intro wS hSw
          go_simp
          try with_reducible rfl
        try simp only [Act.put, List.setIfInBounds_toArray, List.set_cons_zero, List.set_cons_succ]
        refine wpAnyH_take (i := 6) (oi := ?oik6) (v := ?vk6) ?hik6 (by kernel_rfl) (by kernel_rfl) (by kernel_rfl) ?hQk6 ?hyk6 HS ?restk6
        case hik6 => simp only [List.getElem?_toArray, List.getElem?_cons_succ, List.getElem?_cons_zero]; exact rfl
        case hQk6 => exact fun _ _ _ h => h
        case hyk6 =>
          refine Or.inl ⟨by rfl, ?_⟩
          intro wS hSw
          have hKS := HKB7.out.keep hSw
          obtain ⟨-, c1, c2, c3, -, -, -⟩ := op_cells hKS
          go_simp
          try with_reducible rfl
        try simp only [Act.put, List.setIfInBounds_toArray, List.set_cons_zero, List.set_cons_succ]
        refine wpAnyH_ready (rs := [4, 7]) (by kernel_rfl) (by simp) ?_
        refine (AllReadyH.cons (o := ?ok4) ?hok4 (fun K hK => ?stepk4) (AllReadyH.cons (o := ?ok7) ?hok7 (fun K hK => ?stepk7) AllReadyH.nil))
        case hok4 => simp only [List.getElem?_toArray, List.getElem?_cons_succ, List.getElem?_cons_zero]; exact rfl
        case hok7 => simp only [List.getElem?_toArray, List.getElem?_cons_succ, List.getElem?_cons_zero]; exact rfl
        case stepk4 =>
          rw [if_pos (by rfl)]
          refine wp_load_slice 28 (.tmp 71) rfl 32 Try.underlying28 ge 1 rfl _ ((World.cell?_of_block rfl).trans yd) ?_
          refine hK.out _ _ rfl (fun HS => ?_)
          clear hK K
          try simp only [Act.put, List.setIfInBounds_toArray, List.set_cons_zero, List.set_cons_succ]
          refine wpAnyH_ready (rs := [7]) (by kernel_rfl) (by simp) ?_
          refine AllReadyH.cons (o := ?oka7) ?hoka7 (fun K hK => ?stepka7) AllReadyH.nil
          case hoka7 => simp only [List.getElem?_toArray, List.getElem?_cons_succ, List.getElem?_cons_zero]; exact rfl
          rw [if_pos (by rfl)]
          obtain ⟨ie, hie, hz0, hz1, hz2⟩ := info_parts Try.infoK
          refine wp_buildSlice 28 32 1 _ rfl #[.int .i64 o.k.t, .int .i64 o.k.c, .int .i64 o.k.e] ie _ Try.underlying28 hie hz0 (by rw [hz1]; decide) (by rw [hz1]; decide) (by rw [hz1]; simp only [List.map_toArray, List.map_cons, List.map_nil]; exact filled_key o.k) ?_
          clear hie hz0 hz1 hz2
          have HB8 : Hid (Below w7.heap.size w7 (w7.drew.alloc (.cells #[.int .i64 o.k.t, .int .i64 o.k.c, .int .i64 o.k.e] 32))) := hid ((Below.refl _ _).drew.alloc (Nat.le_refl _) _)
          have HQ8 := hid (blk_range (Blk.new w7.drew 32 #[.int .i64 o.k.t, .int .i64 o.k.c, .int .i64 o.k.e]))
          generalize hq8 : w7.drew.heap.size = q8 at *
          generalize hw8 : w7.drew.alloc (.cells #[.int .i64 o.k.t, .int .i64 o.k.c, .int .i64 o.k.e] 32) = w8 at *
          clear hw8 hq8
          refine hK.out _ _ (HB8.out.block v HVW.out) (fun HS => ?_)
          clear hK K
          try simp only [Act.put, List.setIfInBounds_toArray, List.set_cons_zero, List.set_cons_succ]
          refine wpAnyH_ready (rs := [8]) (by kernel_rfl) (by simp) ?_
          refine AllReadyH.cons (o := ?okb8) ?hokb8 (fun K hK => ?stepkb8) AllReadyH.nil
          case hokb8 => simp only [List.getElem?_toArray, List.getElem?_cons_succ, List.getElem?_cons_zero]; exact rfl
          rw [if_pos (by rfl)]
          obtain ⟨B5, d5, w5, hrun5, ho5, -, hg5, hl5⟩ := run_append_L (P := Try.prog) w8 28 28 32 _ 3 24 Try.underlying28 Try.infoK rfl (by decide) 0 B9 NG d9 (kcs t.G) (own_keep (by have := HR9.out; unfold KRow at this; rw [HNG.out] at this; exact this) fun d hd => HB8.out.block d (own_lt (by have := HR9.out; unfold KRow at this; rw [HNG.out] at this; exact this) d hd)) (some ⟨q8, 0, none⟩) 1 1 o.k.cells rfl (fun _ => ⟨q8, 0, rfl, HQ8.out⟩) (ky_cell _) (by have := HGt.out; omega) (by have := HGt.out; unfold maxLen; omega) (Nat.zero_le _)
          have ho5' : KRow w5 B5 d5 (t.G ++ [o.k]) := by unfold KRow; rw [List.length_append, kcs_app, kcs_one, HNG.out]; exact ho5
          obtain ⟨t5, k5⟩ := HGO.out w8 w5 B5 d5 HB8.out hg5 ho5' hl5
          rw [List.length_append, HNG.out] at t5 k5
          have T5 := hid t5
          have K5 : Hid (∀ x, (x = v ∨ A6.map (·.block) = some x) → (w5.setCell ⟨ge, 1, none⟩ (.slice B5 (NG + 1) d5)).heap[x]? = w6.heap[x]?) := hid (fun x hx => (k5 x hx).trans (K7.out x hx))
          refine wp_append_run 28 _ _ rfl _ _ _ rfl rfl hrun5 ?_
          have eg5 : w5.heap[ge]? = w7.heap[ge]? := (hg5.block ge (Nat.lt_of_lt_of_le HEW.out HB8.out.size) (fun e => (HB9.out ge e.symm).1 rfl)).trans (HB8.out.block ge HEW.out)
          have HS5 : Hid (w5.heap[v]? = w7.heap[v]?) := hid ((hg5.block v (Nat.lt_of_lt_of_le HVW.out HB8.out.size) (fun e => (HB9.out v e.symm).2 rfl)).trans (HB8.out.block v HVW.out))
          have f5 := (HE9.out.keep eg5).frozen 1
          have u0 := (HE9.out.keep eg5).cell 1
          simp only [List.getElem?_toArray, List.getElem?_cons_zero, List.getElem?_cons_succ] at u0
          have HV0 : Hid ((w5.setCell ⟨ge, 1, none⟩ (.slice B5 (NG + 1) d5)).cell? ⟨ge, 1, none⟩ = some (.slice B5 (NG + 1) d5)) := hid (by simpa using ((HE9.out.keep eg5).store 1 (.slice B5 (NG + 1) d5)).cell 1)
          clear ho5 ho5' hg5 hl5 hrun5 eg5 t5 k5
          refine hK.out _ _ HS5.out (fun HS => ?_)
          clear hK K
          try simp only [Act.put, List.setIfInBounds_toArray, List.set_cons_zero, List.set_cons_succ]
          refine wpAnyH_take (i := 9) (oi := ?oikb9) (v := ?vkb9) ?hikb9 (by kernel_rfl) (by kernel_rfl) (by kernel_rfl) ?hQkb9 ?hykb9 HS ?restkb9
          case hikb9 => simp only [List.getElem?_toArray, List.getElem?_cons_succ, List.getElem?_cons_zero]; exact rfl
          case hQkb9 => exact fun _ _ _ h => h
          case hykb9 =>
            refine Or.inl ⟨by rfl, ?_⟩
            intro wS hSw
            go_simp
            try with_reducible rfl
          try simp only [Act.put, List.setIfInBounds_toArray, List.set_cons_zero, List.set_cons_succ]
          refine wpAnyH_take (i := 10) (oi := ?oikb10) (v := ?vkb10) ?hikb10 (by kernel_rfl) (by kernel_rfl) (by kernel_rfl) ?hQkb10 ?hykb10 HS ?restkb10
          case hikb10 => simp only [List.getElem?_toArray, List.getElem?_cons_succ, List.getElem?_cons_zero]; exact rfl
          case hQkb10 => exact fun _ _ _ h => h
          case hykb10 =>
            refine Or.inl ⟨by rfl, ?_⟩
            intro wS hSw
            go_simp
            try with_reducible rfl
          try simp only [Act.put, List.setIfInBounds_toArray, List.set_cons_zero, List.set_cons_succ]
          refine wpAnyH_ready (rs := [11]) (by kernel_rfl) (by simp) ?_
          refine AllReadyH.cons (o := ?okb11) ?hokb11 (fun K hK => ?stepkb11) AllReadyH.nil
          case hokb11 => simp only [List.getElem?_toArray, List.getElem?_cons_succ, List.getElem?_cons_zero]; exact rfl
          go_simp
          refine hK.out _ _ ((Below.heap_setCell w5 ⟨ge, 1, none⟩ _ v (fun e => HVE.out e)).trans HS5.out) (fun HS => ?_)
          clear hK K
          try simp only [Act.put]
          refine wpAnyH_done (by kernel_rfl) ?_ _
          clear HS yd u0 f5
          have v0 := HV0.out
          go_wp2_with fail
          go_meet
          case rel => exact ⟨_, _, T5, hid (hS.out.destroy o.k), hid (by show (s.L.map (wipe o.k)).length ≤ _; rw [List.length_map]; have := hsL.out; omega), hid (by show (s.G ++ [o.k]).length ≤ _; rw [List.length_append]; have := hsG.out; simp; omega), K5⟩
        case stepk7 =>
          rw [if_pos (by rfl)]
          obtain ⟨ie, hie, hz0, hz1, hz2⟩ := info_parts Try.infoK
          refine wp_buildSlice 28 32 1 _ rfl #[.int .i64 o.k.t, .int .i64 o.k.c, .int .i64 o.k.e] ie _ Try.underlying28 hie hz0 (by rw [hz1]; decide) (by rw [hz1]; decide) (by rw [hz1]; simp only [List.map_toArray, List.map_cons, List.map_nil]; exact filled_key o.k) ?_
          clear hie hz0 hz1 hz2
          have HB8 : Hid (Below w7.heap.size w7 (w7.drew.alloc (.cells #[.int .i64 o.k.t, .int .i64 o.k.c, .int .i64 o.k.e] 32))) := hid ((Below.refl _ _).drew.alloc (Nat.le_refl _) _)
          have HQ8 := hid (blk_range (Blk.new w7.drew 32 #[.int .i64 o.k.t, .int .i64 o.k.c, .int .i64 o.k.e]))
          generalize hq8 : w7.drew.heap.size = q8 at *
          generalize hw8 : w7.drew.alloc (.cells #[.int .i64 o.k.t, .int .i64 o.k.c, .int .i64 o.k.e] 32) = w8 at *
          clear hw8 hq8
          refine hK.out _ _ (HB8.out.block v HVW.out) (fun HS => ?_)
          clear hK K
          try simp only [Act.put, List.setIfInBounds_toArray, List.set_cons_zero, List.set_cons_succ]
          refine wpAnyH_ready (rs := [4]) (by kernel_rfl) (by simp) ?_
          refine AllReadyH.cons (o := ?okc4) ?hokc4 (fun K hK => ?stepkc4) AllReadyH.nil
          case hokc4 => simp only [List.getElem?_toArray, List.getElem?_cons_succ, List.getElem?_cons_zero]; exact rfl
          rw [if_pos (by rfl)]
          refine wp_load_slice 28 (.tmp 71) rfl 32 Try.underlying28 ge 1 rfl _ ((World.cell?_of_block (HB8.out.block ge HEW.out)).trans yd) ?_
          refine hK.out _ _ (HB8.out.block v HVW.out) (fun HS => ?_)
          clear hK K
          try simp only [Act.put, List.setIfInBounds_toArray, List.set_cons_zero, List.set_cons_succ]
          refine wpAnyH_ready (rs := [8]) (by kernel_rfl) (by simp) ?_
          refine AllReadyH.cons (o := ?okd8) ?hokd8 (fun K hK => ?stepkd8) AllReadyH.nil
          case hokd8 => simp only [List.getElem?_toArray, List.getElem?_cons_succ, List.getElem?_cons_zero]; exact rfl
          rw [if_pos (by rfl)]
          obtain ⟨B5, d5, w5, hrun5, ho5, -, hg5, hl5⟩ := run_append_L (P := Try.prog) w8 28 28 32 _ 3 24 Try.underlying28 Try.infoK rfl (by decide) 0 B9 NG d9 (kcs t.G) (own_keep (by have := HR9.out; unfold KRow at this; rw [HNG.out] at this; exact this) fun d hd => HB8.out.block d (own_lt (by have := HR9.out; unfold KRow at this; rw [HNG.out] at this; exact this) d hd)) (some ⟨q8, 0, none⟩) 1 1 o.k.cells rfl (fun _ => ⟨q8, 0, rfl, HQ8.out⟩) (ky_cell _) (by have := HGt.out; omega) (by have := HGt.out; unfold maxLen; omega) (Nat.zero_le _)
          have ho5' : KRow w5 B5 d5 (t.G ++ [o.k]) := by unfold KRow; rw [List.length_append, kcs_app, kcs_one, HNG.out]; exact ho5
          obtain ⟨t5, k5⟩ := HGO.out w8 w5 B5 d5 HB8.out hg5 ho5' hl5
          rw [List.length_append, HNG.out] at t5 k5
          have T5 := hid t5
          have K5 : Hid (∀ x, (x = v ∨ A6.map (·.block) = some x) → (w5.setCell ⟨ge, 1, none⟩ (.slice B5 (NG + 1) d5)).heap[x]? = w6.heap[x]?) := hid (fun x hx => (k5 x hx).trans (K7.out x hx))
          refine wp_append_run 28 _ _ rfl _ _ _ rfl rfl hrun5 ?_
          have eg5 : w5.heap[ge]? = w7.heap[ge]? := (hg5.block ge (Nat.lt_of_lt_of_le HEW.out HB8.out.size) (fun e => (HB9.out ge e.symm).1 rfl)).trans (HB8.out.block ge HEW.out)
          have HS5 : Hid (w5.heap[v]? = w7.heap[v]?) := hid ((hg5.block v (Nat.lt_of_lt_of_le HVW.out HB8.out.size) (fun e => (HB9.out v e.symm).2 rfl)).trans (HB8.out.block v HVW.out))
          have f5 := (HE9.out.keep eg5).frozen 1
          have u0 := (HE9.out.keep eg5).cell 1
          simp only [List.getElem?_toArray, List.getElem?_cons_zero, List.getElem?_cons_succ] at u0
          have HV0 : Hid ((w5.setCell ⟨ge, 1, none⟩ (.slice B5 (NG + 1) d5)).cell? ⟨ge, 1, none⟩ = some (.slice B5 (NG + 1) d5)) := hid (by simpa using ((HE9.out.keep eg5).store 1 (.slice B5 (NG + 1) d5)).cell 1)
          clear ho5 ho5' hg5 hl5 hrun5 eg5 t5 k5
          refine hK.out _ _ HS5.out (fun HS => ?_)
          clear hK K
          try simp only [Act.put, List.setIfInBounds_toArray, List.set_cons_zero, List.set_cons_succ]
          refine wpAnyH_take (i := 9) (oi := ?oikd9) (v := ?vkd9) ?hikd9 (by kernel_rfl) (by kernel_rfl) (by kernel_rfl) ?hQkd9 ?hykd9 HS ?restkd9
          case hikd9 => simp only [List.getElem?_toArray, List.getElem?_cons_succ, List.getElem?_cons_zero]; exact rfl
          case hQkd9 => exact fun _ _ _ h => h
          case hykd9 =>
            refine Or.inl ⟨by rfl, ?_⟩
            intro wS hSw
            go_simp
            try with_reducible rfl
          try simp only [Act.put, List.setIfInBounds_toArray, List.set_cons_zero, List.set_cons_succ]
          refine wpAnyH_take (i := 10) (oi := ?oikd10) (v := ?vkd10) ?hikd10 (by kernel_rfl) (by kernel_rfl) (by kernel_rfl) ?hQkd10 ?hykd10 HS ?restkd10
          case hikd10 => simp only [List.getElem?_toArray, List.getElem?_cons_succ, List.getElem?_cons_zero]; exact rfl
          case hQkd10 => exact fun _ _ _ h => h
          case hykd10 =>
            refine Or.inl ⟨by rfl, ?_⟩
            intro wS hSw
            go_simp
            try with_reducible rfl
          try simp only [Act.put, List.setIfInBounds_toArray, List.set_cons_zero, List.set_cons_succ]
          refine wpAnyH_ready (rs := [11]) (by kernel_rfl) (by simp) ?_
          refine AllReadyH.cons (o := ?okd11) ?hokd11 (fun K hK => ?stepkd11) AllReadyH.nil
          case hokd11 => simp only [List.getElem?_toArray, List.getElem?_cons_succ, List.getElem?_cons_zero]; exact rfl
          go_simp
          refine hK.out _ _ ((Below.heap_setCell w5 ⟨ge, 1, none⟩ _ v (fun e => HVE.out e)).trans HS5.out) (fun HS => ?_)
          clear hK K
          try simp only [Act.put]
          refine wpAnyH_done (by kernel_rfl) ?_ _
          clear HS yd u0 f5
          have v0 := HV0.out
          go_wp2_with fail
          go_meet
          case rel => exact ⟨_, _, T5, hid (hS.out.destroy o.k), hid (by show (s.L.map (wipe o.k)).length ≤ _; rw [List.length_map]; have := hsL.out; omega), hid (by show (s.G ++ [o.k]).length ≤ _; rw [List.length_append]; have := hsG.out; simp; omega), K5⟩
    case rest =>
      obtain ⟨s', t', hT7, hS7, hL7, hG7, hX7⟩ := hcut
      have HO7 : Hid (wc.ownsRow w2.heap.size 5 1 (.slice A6 o.n c6) o.n (bs o.p)) := hid (own_keep HO6.out fun b hb => hX7.out b (.inr hb))
      clear y0 y1 y2 y3 y4 y5 y6 HO6 HT6 HW6 hkdw hX7 HKD HK6 hS hsL hsG HLs HGs HLt HGt HO
      go_wp2_with fail
      go_loopg [158] o.n (fun k iv wr => ∃ (q : Nat) (zs : List UInt8), iv = .int .i64 (q : Int) ∧ Hid (k = o.n - q) ∧ Hid (q ≤ o.n) ∧ Hid (zs.length = o.n) ∧ Hid (wr.ownsRow w2.heap.size 5 1 (.slice A6 o.n c6) o.n (bs zs)) ∧ Hid (VTw w wr g ge s' t' (fun x => x = v ∨ A6.map (·.block) = some x)))
      case atStart => exact ⟨0, o.p, rfl, hid (by omega), hid (Nat.zero_le _), HOL, HO7, hT7⟩
      case round =>
      obtain ⟨q, zs, rfl, hgq, hq, hzs, hzo, hzT⟩ := hrel
      clear HO7 hT7 HOL
      rcases Nat.lt_or_ge q o.n with hql | hqg
      · as_aux_lemma =>
        obtain ⟨ab, bb, rfl, hab, a1, a2, hst⟩ := inv_own hzo.out hzs.out hql
        have q1 : (0 : Int) ≤ (q : Int) := by omega
        have q2 : (q : Int) < (o.n : Int) := by omega
        have q3 : decide ((q : Int) < (o.n : Int)) = true := by simpa using hql
        have q4 : decide (q < o.n) = true := by simpa using hql
        have wq : wrap64 ((q : Int) + 1) = ((q + 1 : Nat) : Int) := by have := HZ.out; clear wj; unfold wrap64; omega
        have xq := xor255 bb
        have HST := hid (hst (255 - bb))
        have HTS := hid (hzT.out.set (.inr rfl) q (.int .u8 ((255 - bb).toNat : Int)))
        have HLS : Hid ((zs.set q (255 - bb)).length = o.n) := hid (by simpa using hzs.out)
        clear hst hab hzo hzT hzs
        go_wp2
        go_roundg (o.n - (q + 1))
        case measure => have := hgq.out; omega
        case rel => exact ⟨q + 1, zs.set q (255 - bb), congrArg (Value.int .i64) (by first | exact wq | omega | rfl), hid rfl, hid (by omega), HLS, HST, HTS⟩
      have q3 : decide ((q : Int) < (o.n : Int)) = false := by simp; omega
      have q4 : decide (q < o.n) = false := by simp; omega
      have HTB : Hid (VTw w wr g ge s' t' (fun _ => False)) := hid (hzT.out.less (fun x hx => hx.elim))
      clear hzs hzo hgq hq hqg hzT
      generalize hM : s'.L.length = M at *
      have HTL : Hid (t'.L.length = M) := hid (by rw [← hS7.out.len]; exact hM)
      have HSL := hid hM
      obtain ⟨M1, hM1⟩ : ∃ M1 : Nat, M1 = M + 1 := ⟨_, rfl⟩
      have HM1 := hid hM1
      have wM1 : wrap64 ((M : Int) + 1) = (M1 : Int) := by have := hL7.out; have := HJ.out; clear wj; unfold wrap64; omega
      have wM2 : IntKind.u64.wrap (M1 : Int) = (M1 : Int) := wrapu (by omega) (by have := hL7.out; have := HJ.out; omega)
      have wM3 : IntKind.u64.wrap (M : Int) = (M : Int) := wrapu (by omega) (by have := hL7.out; have := HJ.out; omega)
      clear hM hM1
      as_aux_lemma =>
      go_wp2_with fail
      clear q3 q4
      go_loopg [18] (M + 2) (fun k iv wr => ∃ q : Nat, iv = .int .u64 (q : Int) ∧ Hid (k = M + 2 - q) ∧ Hid (q ≤ M + 2) ∧ Hid (VTw w wr g ge s' t' (fun _ => False)))
      case atStart => exact ⟨0, rfl, hid (by omega), hid (Nat.zero_le _), HTB⟩
      case round =>
      obtain ⟨q, rfl, hgq, hq, hT10⟩ := hrel
      clear HTB
      obtain ⟨A9, c9, B9, d9, G9, hr9, -⟩ := hT10.out.ref
      have HR9 := hid hr9
      have f0 := hr9.cells.1
      rw [HTL.out] at f0
      clear hr9
      rcases Nat.lt_or_ge q (M + 2) with hql | hqg
      · have HQL := hid hql
        have q3 : decide ((q : Int) ≤ (M1 : Int)) = true := by have := HM1.out; simp; omega
        have q4 : decide (q ≤ M1) = true := by have := HM1.out; simp; omega
        have wq : IntKind.u64.wrap ((q : Int) + 1) = ((q + 1 : Nat) : Int) := by rw [wrapu (by omega) (by have := hL7.out; have := HJ.out; omega)]; rfl
        have hc := under_tw w wr g ge s' t' _ hT10.out (q : Int) q rfl (by have := hL7.out; have := HJ.out; omega)
        rw [HSL.out] at hc
        by_cases hin : 1 ≤ q ∧ q ≤ M
        · as_aux_lemma =>
          obtain ⟨p, hqp⟩ : ∃ p, q = p + 1 := ⟨q - 1, by omega⟩
          rw [decide_eq_true hin] at hc
          have hpM : p < M := by omega
          obtain ⟨lb, hA9, hlb, hel⟩ := HR9.out.elem (j := p) (by rw [HTL.out]; exact hpM)
          have hKK : (t'.L[p]'(by rw [HTL.out]; exact hpM)).k = uK s' q := by rw [hqp, hS7.out.uK, uK_at]
          have hl0 : wr.cell? ⟨lb, p * 5, none⟩ = some (.int .i64 (uK s' q).t) := by rw [← hKK]; exact hel 0 _ rfl
          have hl1 : wr.cell? ⟨lb, p * 5 + 1, none⟩ = some (.int .i64 (uK s' q).c) := by rw [← hKK]; exact hel 1 _ rfl
          have hl2 : wr.cell? ⟨lb, p * 5 + 2, none⟩ = some (.int .i64 (uK s' q).e) := by rw [← hKK]; exact hel 2 _ rfl
          subst hA9
          have HL0 := hid (And.intro hl0 (And.intro hl1 hl2))
          have HLB := hid hlb
          have HF0 := hid f0
          have r1 : decide ((1 : Int) ≤ (q : Int)) = true := by simp; omega
          have r2 : decide ((q : Int) ≤ (M : Int)) = true := by simp; omega
          have r3 : IntKind.u64.wrap ((q : Int) - 1) = (p : Int) := by rw [wrapu (by omega) (by have := hL7.out; have := HJ.out; omega)]; omega
          have r4 : (0 : Int) ≤ (p : Int) := by omega
          have r5 : (p : Int) < (M : Int) := by omega
          have r6 : decide (1 ≤ q) = true := by simp; omega
          have r7 : decide (q ≤ M) = true := by simp; omega
          have HEW : Hid (ge < wr.heap.size) := hid HR9.out.blk.lt
          clear hqp
          generalize uK s' q = kq at *
          have heq := eq_key kq kq
          rw [decide_eq_true rfl] at heq
          clear hl0 hl1 hl2 hel hlb hKK hpM hin hql HR9
          go_wp2_with fail
          refine hc.mono ?_
          rintro e w3 ⟨rfl, hb3⟩
          have hb4 : Below wr.heap.size wr (w3.alloc (.cells #[.int .i64 kq.t, .int .i64 kq.c, .int .i64 kq.e] 32)) := hb3.alloc hb3.size _
          obtain ⟨k0, k1, k2⟩ := blk_cells (Blk.new w3 32 #[.int .i64 kq.t, .int .i64 kq.c, .int .i64 kq.e])
          have g0 := (World.cell?_of_block (a := ⟨ge, 0, none⟩) (hb4.block ge HEW.out)).trans HF0.out
          have g1 := (World.cell?_of_block (a := ⟨lb, p * 5, none⟩) (hb4.block lb HLB.out)).trans HL0.out.1
          have g2 := (World.cell?_of_block (a := ⟨lb, p * 5 + 1, none⟩) (hb4.block lb HLB.out)).trans HL0.out.2.1
          have g3 := (World.cell?_of_block (a := ⟨lb, p * 5 + 2, none⟩) (hb4.block lb HLB.out)).trans HL0.out.2.2
          have HT4 := hid (hT10.out.bel hb4)
          clear hc hb3 hb4 hT10 HF0 HL0 HLB f0
          go_upto_region 37 with fail
          generalize w3.alloc (.cells #[.int .i64 kq.t, .int .i64 kq.c, .int .i64 kq.e] 32) = w4 at *
          generalize w3.heap.size = kb at *
          have HT5 := hid (HT4.out.bel (wr' := w4.drew) ((Below.refl _ _).drew))
          clear HT4 r1 r2 r6 r7
          have k0 : w4.drew.cell? _ = _ := (World.cell?_of_block rfl).trans k0
          have k1 : w4.drew.cell? _ = _ := (World.cell?_of_block rfl).trans k1
          have k2 : w4.drew.cell? _ = _ := (World.cell?_of_block rfl).trans k2
          have g0 : w4.drew.cell? _ = _ := (World.cell?_of_block rfl).trans g0
          have g1 : w4.drew.cell? _ = _ := (World.cell?_of_block rfl).trans g1
          have g2 : w4.drew.cell? _ = _ := (World.cell?_of_block rfl).trans g2
          have g3 : w4.drew.cell? _ = _ := (World.cell?_of_block rfl).trans g3
          refine wp_region_held_drew (S := fun wx => wx = w4.drew) (by kernel_rfl) rfl (fun HS => ?_)
          generalize w4.drew = w9 at *
          refine wpAnyH_take (i := 0) (oi := ?oiu0) (v := ?vu0) ?hiu0 (by kernel_rfl) (by kernel_rfl) (by kernel_rfl) ?hQu0 ?hyu0 HS ?restu0
          case hiu0 => simp only [List.getElem?_toArray, List.getElem?_cons_zero]; exact rfl
          case hQu0 => exact fun _ _ _ h => h
          case hyu0 =>
            refine Or.inl ⟨by rfl, ?_⟩
            intro wS hSw
            go_simp
            try with_reducible rfl
          try simp only [Act.put, List.setIfInBounds_toArray, List.set_cons_zero, List.set_cons_succ]
          refine wpAnyH_take (i := 1) (oi := ?oiu1) (v := ?vu1) ?hiu1 (by kernel_rfl) (by kernel_rfl) (by kernel_rfl) ?hQu1 ?hyu1 HS ?restu1
          case hiu1 => simp only [List.getElem?_toArray, List.getElem?_cons_succ, List.getElem?_cons_zero]; exact rfl
          case hQu1 => exact fun _ _ _ h => h
          case hyu1 =>
            refine Or.inl ⟨by rfl, ?_⟩
            intro wS hSw
            go_simp
            try with_reducible rfl
          try simp only [Act.put, List.setIfInBounds_toArray, List.set_cons_zero, List.set_cons_succ]
          refine wpAnyH_take (i := 2) (oi := ?oiu2) (v := ?vu2) ?hiu2 (by kernel_rfl) (by kernel_rfl) (by kernel_rfl) ?hQu2 ?hyu2 HS ?restu2
          case hiu2 => simp only [List.getElem?_toArray, List.getElem?_cons_succ, List.getElem?_cons_zero]; exact rfl
          case hQu2 => exact fun _ _ _ h => h
          case hyu2 =>
            refine Or.inl ⟨by rfl, ?_⟩
            intro wS hSw
            go_simp
            try with_reducible rfl
          try simp only [Act.put, List.setIfInBounds_toArray, List.set_cons_zero, List.set_cons_succ]
          refine wpAnyH_take (i := 3) (oi := ?oiu3) (v := ?vu3) ?hiu3 (by kernel_rfl) (by kernel_rfl) (by kernel_rfl) ?hQu3 ?hyu3 HS ?restu3
          case hiu3 => simp only [List.getElem?_toArray, List.getElem?_cons_succ, List.getElem?_cons_zero]; exact rfl
          case hQu3 => exact fun _ _ _ h => h
          case hyu3 =>
            refine Or.inl ⟨by rfl, ?_⟩
            intro wS hSw
            go_simp
            try with_reducible rfl
          try simp only [Act.put, List.setIfInBounds_toArray, List.set_cons_zero, List.set_cons_succ]
          refine wpAnyH_take (i := 4) (oi := ?oiu4) (v := ?vu4) ?hiu4 (by kernel_rfl) (by kernel_rfl) (by kernel_rfl) ?hQu4 ?hyu4 HS ?restu4
          case hiu4 => simp only [List.getElem?_toArray, List.getElem?_cons_succ, List.getElem?_cons_zero]; exact rfl
          case hQu4 => exact fun _ _ _ h => h
          case hyu4 =>
            refine Or.inl ⟨by rfl, ?_⟩
            intro wS hSw
            go_simp
            try with_reducible rfl
          try simp only [Act.put, List.setIfInBounds_toArray, List.set_cons_zero, List.set_cons_succ]
          refine wpAnyH_take (i := 5) (oi := ?oiu5) (v := ?vu5) ?hiu5 (by kernel_rfl) (by kernel_rfl) (by kernel_rfl) ?hQu5 ?hyu5 HS ?restu5
          case hiu5 => simp only [List.getElem?_toArray, List.getElem?_cons_succ, List.getElem?_cons_zero]; exact rfl
          case hQu5 => exact fun _ _ _ h => h
          case hyu5 =>
            refine Or.inl ⟨by rfl, ?_⟩
            intro wS hSw
            go_simp
            try with_reducible rfl
          try simp only [Act.put, List.setIfInBounds_toArray, List.set_cons_zero, List.set_cons_succ]
          refine wpAnyH_take (i := 6) (oi := ?oiu6) (v := ?vu6) ?hiu6 (by kernel_rfl) (by kernel_rfl) (by kernel_rfl) ?hQu6 ?hyu6 HS ?restu6
          case hiu6 => simp only [List.getElem?_toArray, List.getElem?_cons_succ, List.getElem?_cons_zero]; exact rfl
          case hQu6 => exact fun _ _ _ h => h
          case hyu6 =>
            refine Or.inl ⟨by rfl, ?_⟩
            intro wS hSw
            subst hSw
            go_simp
            try with_reducible rfl
          try simp only [Act.put, List.setIfInBounds_toArray, List.set_cons_zero, List.set_cons_succ]
          refine wpAnyH_take (i := 7) (oi := ?oiu7) (v := ?vu7) ?hiu7 (by kernel_rfl) (by kernel_rfl) (by kernel_rfl) ?hQu7 ?hyu7 HS ?restu7
          case hiu7 => simp only [List.getElem?_toArray, List.getElem?_cons_succ, List.getElem?_cons_zero]; exact rfl
          case hQu7 => exact fun _ _ _ h => h
          case hyu7 =>
            refine Or.inl ⟨by rfl, ?_⟩
            intro wS hSw
            go_simp
            try with_reducible rfl
          try simp only [Act.put, List.setIfInBounds_toArray, List.set_cons_zero, List.set_cons_succ]
          refine wpAnyH_take (i := 8) (oi := ?oiu8) (v := ?vu8) ?hiu8 (by kernel_rfl) (by kernel_rfl) (by kernel_rfl) ?hQu8 ?hyu8 HS ?restu8
          case hiu8 => simp only [List.getElem?_toArray, List.getElem?_cons_succ, List.getElem?_cons_zero]; exact rfl
          case hQu8 => exact fun _ _ _ h => h
          case hyu8 =>
            refine Or.inl ⟨by rfl, ?_⟩
            intro wS hSw
            go_simp
            try with_reducible rfl
          try simp only [Act.put, List.setIfInBounds_toArray, List.set_cons_zero, List.set_cons_succ]
          refine wpAnyH_take (i := 9) (oi := ?oiu9) (v := ?vu9) ?hiu9 (by kernel_rfl) (by kernel_rfl) (by kernel_rfl) ?hQu9 ?hyu9 HS ?restu9
          case hiu9 => simp only [List.getElem?_toArray, List.getElem?_cons_succ, List.getElem?_cons_zero]; exact rfl
          case hQu9 => exact fun _ _ _ h => h
          case hyu9 =>
            refine Or.inl ⟨by rfl, ?_⟩
            intro wS hSw
            go_simp
            try with_reducible rfl
          try simp only [Act.put, List.setIfInBounds_toArray, List.set_cons_zero, List.set_cons_succ]
          refine wpAnyH_take (i := 10) (oi := ?oiu10) (v := ?vu10) ?hiu10 (by kernel_rfl) (by kernel_rfl) (by kernel_rfl) ?hQu10 ?hyu10 HS ?restu10
          case hiu10 => simp only [List.getElem?_toArray, List.getElem?_cons_succ, List.getElem?_cons_zero]; exact rfl
          case hQu10 => exact fun _ _ _ h => h
          case hyu10 =>
            refine Or.inl ⟨by rfl, ?_⟩
            intro wS hSw
            subst hSw
            go_simp
            try with_reducible rfl
          try simp only [Act.put, List.setIfInBounds_toArray, List.set_cons_zero, List.set_cons_succ]
          refine wpAnyH_take (i := 11) (oi := ?oiu11) (v := ?vu11) ?hiu11 (by kernel_rfl) (by kernel_rfl) (by kernel_rfl) ?hQu11 ?hyu11 HS ?restu11
          case hiu11 => simp only [List.getElem?_toArray, List.getElem?_cons_succ, List.getElem?_cons_zero]; exact rfl
          case hQu11 => exact fun _ _ _ h => h
          case hyu11 =>
            refine Or.inl ⟨by rfl, ?_⟩
            intro wS hSw
            go_simp
            try with_reducible rfl
          try simp only [Act.put, List.setIfInBounds_toArray, List.set_cons_zero, List.set_cons_succ]
          refine wpAnyH_take (i := 12) (oi := ?oiu12) (v := ?vu12) ?hiu12 (by kernel_rfl) (by kernel_rfl) (by kernel_rfl) ?hQu12 ?hyu12 HS ?restu12
          case hiu12 => simp only [List.getElem?_toArray, List.getElem?_cons_succ, List.getElem?_cons_zero]; exact rfl
          case hQu12 => exact fun _ _ _ h => h
          case hyu12 =>
            refine Or.inl ⟨by rfl, ?_⟩
            intro wS hSw
            go_simp
            try with_reducible rfl
          try simp only [Act.put, List.setIfInBounds_toArray, List.set_cons_zero, List.set_cons_succ]
          refine wpAnyH_take (i := 13) (oi := ?oiu13) (v := ?vu13) ?hiu13 (by kernel_rfl) (by kernel_rfl) (by kernel_rfl) ?hQu13 ?hyu13 HS ?restu13
          case hiu13 => simp only [List.getElem?_toArray, List.getElem?_cons_succ, List.getElem?_cons_zero]; exact rfl
          case hQu13 => exact fun _ _ _ h => h
          case hyu13 =>
            refine Or.inl ⟨by rfl, ?_⟩
            intro wS hSw
            go_simp
            try with_reducible rfl
          try simp only [Act.put, List.setIfInBounds_toArray, List.set_cons_zero, List.set_cons_succ]
          refine wpAnyH_take (i := 14) (oi := ?oiu14) (v := ?vu14) ?hiu14 (by kernel_rfl) (by kernel_rfl) (by kernel_rfl) ?hQu14 ?hyu14 HS ?restu14
          case hiu14 => simp only [List.getElem?_toArray, List.getElem?_cons_succ, List.getElem?_cons_zero]; exact rfl
          case hQu14 => exact fun _ _ _ h => h
          case hyu14 =>
            refine Or.inl ⟨by rfl, ?_⟩
            intro wS hSw
            go_simp
            try with_reducible rfl
          try simp only [Act.put, List.setIfInBounds_toArray, List.set_cons_zero, List.set_cons_succ]
          refine wpAnyH_take (i := 15) (oi := ?oiu15) (v := ?vu15) ?hiu15 (by kernel_rfl) (by kernel_rfl) (by kernel_rfl) ?hQu15 ?hyu15 HS ?restu15
          case hiu15 => simp only [List.getElem?_toArray, List.getElem?_cons_succ, List.getElem?_cons_zero]; exact rfl
          case hQu15 => exact fun _ _ _ h => h
          case hyu15 =>
            refine Or.inl ⟨by rfl, ?_⟩
            intro wS hSw
            subst hSw
            go_simp
            try with_reducible rfl
          try simp only [Act.put, List.setIfInBounds_toArray, List.set_cons_zero, List.set_cons_succ]
          refine wpAnyH_take (i := 16) (oi := ?oiu16) (v := ?vu16) ?hiu16 (by kernel_rfl) (by kernel_rfl) (by kernel_rfl) ?hQu16 ?hyu16 HS ?restu16
          case hiu16 => simp only [List.getElem?_toArray, List.getElem?_cons_succ, List.getElem?_cons_zero]; exact rfl
          case hQu16 => exact fun _ _ _ h => h
          case hyu16 =>
            refine Or.inl ⟨by rfl, ?_⟩
            intro wS hSw
            go_simp
            try with_reducible rfl
          try simp only [Act.put, List.setIfInBounds_toArray, List.set_cons_zero, List.set_cons_succ]
          refine wpAnyH_take (i := 17) (oi := ?oiu17) (v := ?vu17) ?hiu17 (by kernel_rfl) (by kernel_rfl) (by kernel_rfl) ?hQu17 ?hyu17 HS ?restu17
          case hiu17 => simp only [List.getElem?_toArray, List.getElem?_cons_succ, List.getElem?_cons_zero]; exact rfl
          case hQu17 => exact fun _ _ _ h => h
          case hyu17 =>
            refine Or.inl ⟨by rfl, ?_⟩
            intro wS hSw
            go_simp
            try with_reducible rfl
          try simp only [Act.put, List.setIfInBounds_toArray, List.set_cons_zero, List.set_cons_succ]
          refine wpAnyH_take (i := 18) (oi := ?oiu18) (v := ?vu18) ?hiu18 (by kernel_rfl) (by kernel_rfl) (by kernel_rfl) ?hQu18 ?hyu18 HS ?restu18
          case hiu18 => simp only [List.getElem?_toArray, List.getElem?_cons_succ, List.getElem?_cons_zero]; exact rfl
          case hQu18 => exact fun _ _ _ h => h
          case hyu18 =>
            refine Or.inl ⟨by rfl, ?_⟩
            intro wS hSw
            go_simp
            try with_reducible rfl
          try simp only [Act.put, List.setIfInBounds_toArray, List.set_cons_zero, List.set_cons_succ]
          refine wpAnyH_take (i := 19) (oi := ?oiu19) (v := ?vu19) ?hiu19 (by kernel_rfl) (by kernel_rfl) (by kernel_rfl) ?hQu19 ?hyu19 HS ?restu19
          case hiu19 => simp only [List.getElem?_toArray, List.getElem?_cons_succ, List.getElem?_cons_zero]; exact rfl
          case hQu19 => exact fun _ _ _ h => h
          case hyu19 =>
            refine Or.inl ⟨by rfl, ?_⟩
            intro wS hSw
            go_simp
            try with_reducible rfl
          try simp only [Act.put, List.setIfInBounds_toArray, List.set_cons_zero, List.set_cons_succ]
          refine wpAnyH_take (i := 20) (oi := ?oiu20) (v := ?vu20) ?hiu20 (by kernel_rfl) (by kernel_rfl) (by kernel_rfl) ?hQu20 ?hyu20 HS ?restu20
          case hiu20 => simp only [List.getElem?_toArray, List.getElem?_cons_succ, List.getElem?_cons_zero]; exact rfl
          case hQu20 => exact fun _ _ _ h => h
          case hyu20 =>
            refine Or.inl ⟨by rfl, ?_⟩
            intro wS hSw
            go_simp
            try with_reducible rfl
          try simp only [Act.put, List.setIfInBounds_toArray, List.set_cons_zero, List.set_cons_succ]
          refine wpAnyH_take (i := 21) (oi := ?oiu21) (v := ?vu21) ?hiu21 (by kernel_rfl) (by kernel_rfl) (by kernel_rfl) ?hQu21 ?hyu21 HS ?restu21
          case hiu21 => simp only [List.getElem?_toArray, List.getElem?_cons_succ, List.getElem?_cons_zero]; exact rfl
          case hQu21 => exact fun _ _ _ h => h
          case hyu21 =>
            refine Or.inl ⟨by rfl, ?_⟩
            intro wS hSw
            go_simp
            try with_reducible rfl
          try simp only [Act.put, List.setIfInBounds_toArray, List.set_cons_zero, List.set_cons_succ]
          refine wpAnyH_take (i := 22) (oi := ?oiu22) (v := ?vu22) ?hiu22 (by kernel_rfl) (by kernel_rfl) (by kernel_rfl) ?hQu22 ?hyu22 HS ?restu22
          case hiu22 => simp only [List.getElem?_toArray, List.getElem?_cons_succ, List.getElem?_cons_zero]; exact rfl
          case hQu22 => exact fun _ _ _ h => h
          case hyu22 =>
            refine Or.inl ⟨by rfl, ?_⟩
            intro wS hSw
            go_simp
            try with_reducible rfl
          try simp only [Act.put, List.setIfInBounds_toArray, List.set_cons_zero, List.set_cons_succ]
          refine wpAnyH_take (i := 23) (oi := ?oiu23) (v := undef) ?hiu23 (by kernel_rfl) (by kernel_rfl) (by kernel_rfl) ?hQu23 ?hyu23 HS ?restu23
          case hiu23 => simp only [List.getElem?_toArray, List.getElem?_cons_succ, List.getElem?_cons_zero]; exact rfl
          case hQu23 => exact fun _ _ _ h => h
          case hyu23 =>
            refine Or.inr ⟨by rfl, rfl⟩
          try simp only [Act.put, List.setIfInBounds_toArray, List.set_cons_zero, List.set_cons_succ]
          refine wpAnyH_take (i := 24) (oi := ?oiu24) (v := undef) ?hiu24 (by kernel_rfl) (by kernel_rfl) (by kernel_rfl) ?hQu24 ?hyu24 HS ?restu24
          case hiu24 => simp only [List.getElem?_toArray, List.getElem?_cons_succ, List.getElem?_cons_zero]; exact rfl
          case hQu24 => exact fun _ _ _ h => h
          case hyu24 =>
            refine Or.inr ⟨by rfl, rfl⟩
          try simp only [Act.put, List.setIfInBounds_toArray, List.set_cons_zero, List.set_cons_succ]
          refine wpAnyH_take (i := 25) (oi := ?oiu25) (v := undef) ?hiu25 (by kernel_rfl) (by kernel_rfl) (by kernel_rfl) ?hQu25 ?hyu25 HS ?restu25
          case hiu25 => simp only [List.getElem?_toArray, List.getElem?_cons_succ, List.getElem?_cons_zero]; exact rfl
          case hQu25 => exact fun _ _ _ h => h
          case hyu25 =>
            refine Or.inr ⟨by rfl, rfl⟩
          try simp only [Act.put, List.setIfInBounds_toArray, List.set_cons_zero, List.set_cons_succ]
          refine wpAnyH_take (i := 26) (oi := ?oiu26) (v := ?vu26) ?hiu26 (by kernel_rfl) (by kernel_rfl) (by kernel_rfl) ?hQu26 ?hyu26 HS ?restu26
          case hiu26 => simp only [List.getElem?_toArray, List.getElem?_cons_succ, List.getElem?_cons_zero]; exact rfl
          case hQu26 => exact fun _ _ _ h => h
          case hyu26 =>
            refine Or.inl ⟨by rfl, ?_⟩
            intro wS hSw
            go_simp
            try with_reducible rfl
          try simp only [Act.put, List.setIfInBounds_toArray, List.set_cons_zero, List.set_cons_succ]
          refine wpAnyH_take (i := 27) (oi := ?oiu27) (v := ?vu27) ?hiu27 (by kernel_rfl) (by kernel_rfl) (by kernel_rfl) ?hQu27 ?hyu27 HS ?restu27
          case hiu27 => simp only [List.getElem?_toArray, List.getElem?_cons_succ, List.getElem?_cons_zero]; exact rfl
          case hQu27 => exact fun _ _ _ h => h
          case hyu27 =>
            refine Or.inl ⟨by rfl, ?_⟩
            intro wS hSw
            go_simp
            try with_reducible rfl
          try simp only [Act.put, List.setIfInBounds_toArray, List.set_cons_zero, List.set_cons_succ]
          refine wpAnyH_done (by kernel_rfl) ?_ _
          clear HS k0 k1 k2 g0 g1 g2 g3
          go_wp2
          go_roundg (M + 2 - (q + 1))
          case measure => have := hgq.out; have := HQL.out; omega
          case rel => exact ⟨q + 1, congrArg (Value.int .u64) (by first | exact wq | omega | rfl), hid rfl, hid (by have := HQL.out; omega), HT5⟩
        · as_aux_lemma =>
          rw [decide_eq_false hin, uK_no (by rw [HSL.out]; exact hin)] at hc
          have HF0 := hid f0
          have HEW : Hid (ge < wr.heap.size) := hid HR9.out.blk.lt
          have r12 : (decide ((1 : Int) ≤ (q : Int)) = false ∧ decide (1 ≤ q) = false) ∨ (decide ((1 : Int) ≤ (q : Int)) = true ∧ decide (1 ≤ q) = true ∧ decide ((q : Int) ≤ (M : Int)) = false ∧ decide (q ≤ M) = false) := by
            simp only [decide_eq_true_eq, decide_eq_false_iff_not]
            omega
          clear hin hql HR9
          go_wp2_with fail
          refine hc.mono ?_
          rintro e w3 ⟨rfl, hb3⟩
          have hb4 : Below wr.heap.size wr (w3.alloc (.cells #[.int .i64 0, .int .i64 0, .int .i64 0] 32)) := hb3.alloc hb3.size _
          obtain ⟨k0, k1, k2⟩ := blk_cells (k := ⟨0, 0, 0⟩) (Blk.new w3 32 #[.int .i64 0, .int .i64 0, .int .i64 0])
          have g0 := (World.cell?_of_block (a := ⟨ge, 0, none⟩) (hb4.block ge HEW.out)).trans HF0.out
          have HT4 := hid (hT10.out.bel hb4)
          clear hc hb3 hb4 hT10 HF0 f0
          rcases r12 with ⟨r1, r2⟩ | ⟨r1, r2, r3, r4⟩
          · as_aux_lemma =>
            go_upto_region 37 with fail
            generalize w3.alloc (.cells #[.int .i64 0, .int .i64 0, .int .i64 0] 32) = w4 at *
            generalize w3.heap.size = kb at *
            have HT5 := hid (HT4.out.bel (wr' := w4.drew) ((Below.refl _ _).drew))
            have heq : ∀ wx, (Op.equalIn 10000 32 (.agg #[.int .i64 0, .int .i64 0, .int .i64 0]) (.agg #[.int .i64 0, .int .i64 0, .int .i64 0])).run Try.prog wx = .ok true wx := fun wx => by
              have := eq_key ⟨0, 0, 0⟩ ⟨0, 0, 0⟩ wx
              rw [decide_eq_true rfl] at this
              exact this
            clear HT4
            have k0 : w4.drew.cell? _ = _ := (World.cell?_of_block rfl).trans k0
            have k1 : w4.drew.cell? _ = _ := (World.cell?_of_block rfl).trans k1
            have k2 : w4.drew.cell? _ = _ := (World.cell?_of_block rfl).trans k2
            have g0 : w4.drew.cell? _ = _ := (World.cell?_of_block rfl).trans g0
            refine wp_region_held_drew (S := fun wx => wx = w4.drew) (by kernel_rfl) rfl (fun HS => ?_)
            generalize w4.drew = w9 at *
            refine wpAnyH_take (i := 0) (oi := ?oiv0) (v := ?vv0) ?hiv0 (by kernel_rfl) (by kernel_rfl) (by kernel_rfl) ?hQv0 ?hyv0 HS ?restv0
            case hiv0 => simp only [List.getElem?_toArray, List.getElem?_cons_zero]; exact rfl
            case hQv0 => exact fun _ _ _ h => h
            case hyv0 =>
              refine Or.inl ⟨by rfl, ?_⟩
              intro wS hSw
              go_simp
              try with_reducible rfl
            try simp only [Act.put, List.setIfInBounds_toArray, List.set_cons_zero, List.set_cons_succ]
            refine wpAnyH_take (i := 1) (oi := ?oiv1) (v := ?vv1) ?hiv1 (by kernel_rfl) (by kernel_rfl) (by kernel_rfl) ?hQv1 ?hyv1 HS ?restv1
            case hiv1 => simp only [List.getElem?_toArray, List.getElem?_cons_succ, List.getElem?_cons_zero]; exact rfl
            case hQv1 => exact fun _ _ _ h => h
            case hyv1 =>
              refine Or.inl ⟨by rfl, ?_⟩
              intro wS hSw
              go_simp
              try with_reducible rfl
            try simp only [Act.put, List.setIfInBounds_toArray, List.set_cons_zero, List.set_cons_succ]
            refine wpAnyH_take (i := 2) (oi := ?oiv2) (v := ?vv2) ?hiv2 (by kernel_rfl) (by kernel_rfl) (by kernel_rfl) ?hQv2 ?hyv2 HS ?restv2
            case hiv2 => simp only [List.getElem?_toArray, List.getElem?_cons_succ, List.getElem?_cons_zero]; exact rfl
            case hQv2 => exact fun _ _ _ h => h
            case hyv2 =>
              refine Or.inl ⟨by rfl, ?_⟩
              intro wS hSw
              go_simp
              try with_reducible rfl
            try simp only [Act.put, List.setIfInBounds_toArray, List.set_cons_zero, List.set_cons_succ]
            refine wpAnyH_take (i := 3) (oi := ?oiv3) (v := ?vv3) ?hiv3 (by kernel_rfl) (by kernel_rfl) (by kernel_rfl) ?hQv3 ?hyv3 HS ?restv3
            case hiv3 => simp only [List.getElem?_toArray, List.getElem?_cons_succ, List.getElem?_cons_zero]; exact rfl
            case hQv3 => exact fun _ _ _ h => h
            case hyv3 =>
              refine Or.inl ⟨by rfl, ?_⟩
              intro wS hSw
              go_simp
              try with_reducible rfl
            try simp only [Act.put, List.setIfInBounds_toArray, List.set_cons_zero, List.set_cons_succ]
            refine wpAnyH_take (i := 4) (oi := ?oiv4) (v := ?vv4) ?hiv4 (by kernel_rfl) (by kernel_rfl) (by kernel_rfl) ?hQv4 ?hyv4 HS ?restv4
            case hiv4 => simp only [List.getElem?_toArray, List.getElem?_cons_succ, List.getElem?_cons_zero]; exact rfl
            case hQv4 => exact fun _ _ _ h => h
            case hyv4 =>
              refine Or.inl ⟨by rfl, ?_⟩
              intro wS hSw
              go_simp
              try with_reducible rfl
            try simp only [Act.put, List.setIfInBounds_toArray, List.set_cons_zero, List.set_cons_succ]
            refine wpAnyH_take (i := 5) (oi := ?oiv5) (v := ?vv5) ?hiv5 (by kernel_rfl) (by kernel_rfl) (by kernel_rfl) ?hQv5 ?hyv5 HS ?restv5
            case hiv5 => simp only [List.getElem?_toArray, List.getElem?_cons_succ, List.getElem?_cons_zero]; exact rfl
            case hQv5 => exact fun _ _ _ h => h
            case hyv5 =>
              refine Or.inl ⟨by rfl, ?_⟩
              intro wS hSw
              go_simp
              try with_reducible rfl
            try simp only [Act.put, List.setIfInBounds_toArray, List.set_cons_zero, List.set_cons_succ]
            refine wpAnyH_take (i := 6) (oi := ?oiv6) (v := undef) ?hiv6 (by kernel_rfl) (by kernel_rfl) (by kernel_rfl) ?hQv6 ?hyv6 HS ?restv6
            case hiv6 => simp only [List.getElem?_toArray, List.getElem?_cons_succ, List.getElem?_cons_zero]; exact rfl
            case hQv6 => exact fun _ _ _ h => h
            case hyv6 =>
              refine Or.inr ⟨by rfl, rfl⟩
            try simp only [Act.put, List.setIfInBounds_toArray, List.set_cons_zero, List.set_cons_succ]
            refine wpAnyH_take (i := 7) (oi := ?oiv7) (v := undef) ?hiv7 (by kernel_rfl) (by kernel_rfl) (by kernel_rfl) ?hQv7 ?hyv7 HS ?restv7
            case hiv7 => simp only [List.getElem?_toArray, List.getElem?_cons_succ, List.getElem?_cons_zero]; exact rfl
            case hQv7 => exact fun _ _ _ h => h
            case hyv7 =>
              refine Or.inr ⟨by rfl, rfl⟩
            try simp only [Act.put, List.setIfInBounds_toArray, List.set_cons_zero, List.set_cons_succ]
            refine wpAnyH_take (i := 8) (oi := ?oiv8) (v := undef) ?hiv8 (by kernel_rfl) (by kernel_rfl) (by kernel_rfl) ?hQv8 ?hyv8 HS ?restv8
            case hiv8 => simp only [List.getElem?_toArray, List.getElem?_cons_succ, List.getElem?_cons_zero]; exact rfl
            case hQv8 => exact fun _ _ _ h => h
            case hyv8 =>
              refine Or.inr ⟨by rfl, rfl⟩
            try simp only [Act.put, List.setIfInBounds_toArray, List.set_cons_zero, List.set_cons_succ]
            refine wpAnyH_take (i := 9) (oi := ?oiv9) (v := undef) ?hiv9 (by kernel_rfl) (by kernel_rfl) (by kernel_rfl) ?hQv9 ?hyv9 HS ?restv9
            case hiv9 => simp only [List.getElem?_toArray, List.getElem?_cons_succ, List.getElem?_cons_zero]; exact rfl
            case hQv9 => exact fun _ _ _ h => h
            case hyv9 =>
              refine Or.inr ⟨by rfl, rfl⟩
            try simp only [Act.put, List.setIfInBounds_toArray, List.set_cons_zero, List.set_cons_succ]
            refine wpAnyH_take (i := 10) (oi := ?oiv10) (v := undef) ?hiv10 (by kernel_rfl) (by kernel_rfl) (by kernel_rfl) ?hQv10 ?hyv10 HS ?restv10
            case hiv10 => simp only [List.getElem?_toArray, List.getElem?_cons_succ, List.getElem?_cons_zero]; exact rfl
            case hQv10 => exact fun _ _ _ h => h
            case hyv10 =>
              refine Or.inr ⟨by rfl, rfl⟩
            try simp only [Act.put, List.setIfInBounds_toArray, List.set_cons_zero, List.set_cons_succ]
            refine wpAnyH_take (i := 11) (oi := ?oiv11) (v := undef) ?hiv11 (by kernel_rfl) (by kernel_rfl) (by kernel_rfl) ?hQv11 ?hyv11 HS ?restv11
            case hiv11 => simp only [List.getElem?_toArray, List.getElem?_cons_succ, List.getElem?_cons_zero]; exact rfl
            case hQv11 => exact fun _ _ _ h => h
            case hyv11 =>
              refine Or.inr ⟨by rfl, rfl⟩
            try simp only [Act.put, List.setIfInBounds_toArray, List.set_cons_zero, List.set_cons_succ]
            refine wpAnyH_take (i := 12) (oi := ?oiv12) (v := undef) ?hiv12 (by kernel_rfl) (by kernel_rfl) (by kernel_rfl) ?hQv12 ?hyv12 HS ?restv12
            case hiv12 => simp only [List.getElem?_toArray, List.getElem?_cons_succ, List.getElem?_cons_zero]; exact rfl
            case hQv12 => exact fun _ _ _ h => h
            case hyv12 =>
              refine Or.inr ⟨by rfl, rfl⟩
            try simp only [Act.put, List.setIfInBounds_toArray, List.set_cons_zero, List.set_cons_succ]
            refine wpAnyH_take (i := 13) (oi := ?oiv13) (v := undef) ?hiv13 (by kernel_rfl) (by kernel_rfl) (by kernel_rfl) ?hQv13 ?hyv13 HS ?restv13
            case hiv13 => simp only [List.getElem?_toArray, List.getElem?_cons_succ, List.getElem?_cons_zero]; exact rfl
            case hQv13 => exact fun _ _ _ h => h
            case hyv13 =>
              refine Or.inr ⟨by rfl, rfl⟩
            try simp only [Act.put, List.setIfInBounds_toArray, List.set_cons_zero, List.set_cons_succ]
            refine wpAnyH_take (i := 14) (oi := ?oiv14) (v := undef) ?hiv14 (by kernel_rfl) (by kernel_rfl) (by kernel_rfl) ?hQv14 ?hyv14 HS ?restv14
            case hiv14 => simp only [List.getElem?_toArray, List.getElem?_cons_succ, List.getElem?_cons_zero]; exact rfl
            case hQv14 => exact fun _ _ _ h => h
            case hyv14 =>
              refine Or.inr ⟨by rfl, rfl⟩
            try simp only [Act.put, List.setIfInBounds_toArray, List.set_cons_zero, List.set_cons_succ]
            refine wpAnyH_take (i := 15) (oi := ?oiv15) (v := undef) ?hiv15 (by kernel_rfl) (by kernel_rfl) (by kernel_rfl) ?hQv15 ?hyv15 HS ?restv15
            case hiv15 => simp only [List.getElem?_toArray, List.getElem?_cons_succ, List.getElem?_cons_zero]; exact rfl
            case hQv15 => exact fun _ _ _ h => h
            case hyv15 =>
              refine Or.inr ⟨by rfl, rfl⟩
            try simp only [Act.put, List.setIfInBounds_toArray, List.set_cons_zero, List.set_cons_succ]
            refine wpAnyH_take (i := 16) (oi := ?oiv16) (v := undef) ?hiv16 (by kernel_rfl) (by kernel_rfl) (by kernel_rfl) ?hQv16 ?hyv16 HS ?restv16
            case hiv16 => simp only [List.getElem?_toArray, List.getElem?_cons_succ, List.getElem?_cons_zero]; exact rfl
            case hQv16 => exact fun _ _ _ h => h
            case hyv16 =>
              refine Or.inr ⟨by rfl, rfl⟩
            try simp only [Act.put, List.setIfInBounds_toArray, List.set_cons_zero, List.set_cons_succ]
            refine wpAnyH_take (i := 17) (oi := ?oiv17) (v := ?vv17) ?hiv17 (by kernel_rfl) (by kernel_rfl) (by kernel_rfl) ?hQv17 ?hyv17 HS ?restv17
            case hiv17 => simp only [List.getElem?_toArray, List.getElem?_cons_succ, List.getElem?_cons_zero]; exact rfl
            case hQv17 => exact fun _ _ _ h => h
            case hyv17 =>
              refine Or.inl ⟨by rfl, ?_⟩
              intro wS hSw
              go_simp
              try with_reducible rfl
            try simp only [Act.put, List.setIfInBounds_toArray, List.set_cons_zero, List.set_cons_succ]
            refine wpAnyH_take (i := 18) (oi := ?oiv18) (v := ?vv18) ?hiv18 (by kernel_rfl) (by kernel_rfl) (by kernel_rfl) ?hQv18 ?hyv18 HS ?restv18
            case hiv18 => simp only [List.getElem?_toArray, List.getElem?_cons_succ, List.getElem?_cons_zero]; exact rfl
            case hQv18 => exact fun _ _ _ h => h
            case hyv18 =>
              refine Or.inl ⟨by rfl, ?_⟩
              intro wS hSw
              go_simp
              try with_reducible rfl
            try simp only [Act.put, List.setIfInBounds_toArray, List.set_cons_zero, List.set_cons_succ]
            refine wpAnyH_take (i := 19) (oi := ?oiv19) (v := ?vv19) ?hiv19 (by kernel_rfl) (by kernel_rfl) (by kernel_rfl) ?hQv19 ?hyv19 HS ?restv19
            case hiv19 => simp only [List.getElem?_toArray, List.getElem?_cons_succ, List.getElem?_cons_zero]; exact rfl
            case hQv19 => exact fun _ _ _ h => h
            case hyv19 =>
              refine Or.inl ⟨by rfl, ?_⟩
              intro wS hSw
              go_simp
              try with_reducible rfl
            try simp only [Act.put, List.setIfInBounds_toArray, List.set_cons_zero, List.set_cons_succ]
            refine wpAnyH_take (i := 20) (oi := ?oiv20) (v := ?vv20) ?hiv20 (by kernel_rfl) (by kernel_rfl) (by kernel_rfl) ?hQv20 ?hyv20 HS ?restv20
            case hiv20 => simp only [List.getElem?_toArray, List.getElem?_cons_succ, List.getElem?_cons_zero]; exact rfl
            case hQv20 => exact fun _ _ _ h => h
            case hyv20 =>
              refine Or.inl ⟨by rfl, ?_⟩
              intro wS hSw
              go_simp
              try with_reducible rfl
            try simp only [Act.put, List.setIfInBounds_toArray, List.set_cons_zero, List.set_cons_succ]
            refine wpAnyH_take (i := 21) (oi := ?oiv21) (v := ?vv21) ?hiv21 (by kernel_rfl) (by kernel_rfl) (by kernel_rfl) ?hQv21 ?hyv21 HS ?restv21
            case hiv21 => simp only [List.getElem?_toArray, List.getElem?_cons_succ, List.getElem?_cons_zero]; exact rfl
            case hQv21 => exact fun _ _ _ h => h
            case hyv21 =>
              refine Or.inl ⟨by rfl, ?_⟩
              intro wS hSw
              go_simp
              try with_reducible rfl
            try simp only [Act.put, List.setIfInBounds_toArray, List.set_cons_zero, List.set_cons_succ]
            refine wpAnyH_take (i := 22) (oi := ?oiv22) (v := ?vv22) ?hiv22 (by kernel_rfl) (by kernel_rfl) (by kernel_rfl) ?hQv22 ?hyv22 HS ?restv22
            case hiv22 => simp only [List.getElem?_toArray, List.getElem?_cons_succ, List.getElem?_cons_zero]; exact rfl
            case hQv22 => exact fun _ _ _ h => h
            case hyv22 =>
              refine Or.inl ⟨by rfl, ?_⟩
              intro wS hSw
              go_simp
              try with_reducible rfl
            try simp only [Act.put, List.setIfInBounds_toArray, List.set_cons_zero, List.set_cons_succ]
            refine wpAnyH_take (i := 23) (oi := ?oiv23) (v := ?vv23) ?hiv23 (by kernel_rfl) (by kernel_rfl) (by kernel_rfl) ?hQv23 ?hyv23 HS ?restv23
            case hiv23 => simp only [List.getElem?_toArray, List.getElem?_cons_succ, List.getElem?_cons_zero]; exact rfl
            case hQv23 => exact fun _ _ _ h => h
            case hyv23 =>
              refine Or.inl ⟨by rfl, ?_⟩
              intro wS hSw
              subst hSw
              go_simp
              try with_reducible rfl
            try simp only [Act.put, List.setIfInBounds_toArray, List.set_cons_zero, List.set_cons_succ]
            refine wpAnyH_take (i := 24) (oi := ?oiv24) (v := ?vv24) ?hiv24 (by kernel_rfl) (by kernel_rfl) (by kernel_rfl) ?hQv24 ?hyv24 HS ?restv24
            case hiv24 => simp only [List.getElem?_toArray, List.getElem?_cons_succ, List.getElem?_cons_zero]; exact rfl
            case hQv24 => exact fun _ _ _ h => h
            case hyv24 =>
              refine Or.inl ⟨by rfl, ?_⟩
              intro wS hSw
              go_simp
              try with_reducible rfl
            try simp only [Act.put, List.setIfInBounds_toArray, List.set_cons_zero, List.set_cons_succ]
            refine wpAnyH_take (i := 25) (oi := ?oiv25) (v := ?vv25) ?hiv25 (by kernel_rfl) (by kernel_rfl) (by kernel_rfl) ?hQv25 ?hyv25 HS ?restv25
            case hiv25 => simp only [List.getElem?_toArray, List.getElem?_cons_succ, List.getElem?_cons_zero]; exact rfl
            case hQv25 => exact fun _ _ _ h => h
            case hyv25 =>
              refine Or.inl ⟨by rfl, ?_⟩
              intro wS hSw
              go_simp
              try with_reducible rfl
            try simp only [Act.put, List.setIfInBounds_toArray, List.set_cons_zero, List.set_cons_succ]
            refine wpAnyH_take (i := 26) (oi := ?oiv26) (v := ?vv26) ?hiv26 (by kernel_rfl) (by kernel_rfl) (by kernel_rfl) ?hQv26 ?hyv26 HS ?restv26
            case hiv26 => simp only [List.getElem?_toArray, List.getElem?_cons_succ, List.getElem?_cons_zero]; exact rfl
            case hQv26 => exact fun _ _ _ h => h
            case hyv26 =>
              refine Or.inl ⟨by rfl, ?_⟩
              intro wS hSw
              go_simp
              try with_reducible rfl
            try simp only [Act.put, List.setIfInBounds_toArray, List.set_cons_zero, List.set_cons_succ]
            refine wpAnyH_take (i := 27) (oi := ?oiv27) (v := ?vv27) ?hiv27 (by kernel_rfl) (by kernel_rfl) (by kernel_rfl) ?hQv27 ?hyv27 HS ?restv27
            case hiv27 => simp only [List.getElem?_toArray, List.getElem?_cons_succ, List.getElem?_cons_zero]; exact rfl
            case hQv27 => exact fun _ _ _ h => h
            case hyv27 =>
              refine Or.inl ⟨by rfl, ?_⟩
              intro wS hSw
              go_simp
              try with_reducible rfl
            try simp only [Act.put, List.setIfInBounds_toArray, List.set_cons_zero, List.set_cons_succ]
            refine wpAnyH_done (by kernel_rfl) ?_ _
            clear HS k0 k1 k2 g0
            go_wp2
            go_roundg (M + 2 - (q + 1))
            case measure => have := hgq.out; have := HQL.out; omega
            case rel => exact ⟨q + 1, congrArg (Value.int .u64) (by first | exact wq | omega | rfl), hid rfl, hid (by have := HQL.out; omega), HT5⟩
          · as_aux_lemma =>
            go_upto_region 37 with fail
            generalize w3.alloc (.cells #[.int .i64 0, .int .i64 0, .int .i64 0] 32) = w4 at *
            generalize w3.heap.size = kb at *
            have HT5 := hid (HT4.out.bel (wr' := w4.drew) ((Below.refl _ _).drew))
            have heq : ∀ wx, (Op.equalIn 10000 32 (.agg #[.int .i64 0, .int .i64 0, .int .i64 0]) (.agg #[.int .i64 0, .int .i64 0, .int .i64 0])).run Try.prog wx = .ok true wx := fun wx => by
              have := eq_key ⟨0, 0, 0⟩ ⟨0, 0, 0⟩ wx
              rw [decide_eq_true rfl] at this
              exact this
            clear HT4
            have k0 : w4.drew.cell? _ = _ := (World.cell?_of_block rfl).trans k0
            have k1 : w4.drew.cell? _ = _ := (World.cell?_of_block rfl).trans k1
            have k2 : w4.drew.cell? _ = _ := (World.cell?_of_block rfl).trans k2
            have g0 : w4.drew.cell? _ = _ := (World.cell?_of_block rfl).trans g0
            refine wp_region_held_drew (S := fun wx => wx = w4.drew) (by kernel_rfl) rfl (fun HS => ?_)
            generalize w4.drew = w9 at *
            refine wpAnyH_take (i := 0) (oi := ?oiy0) (v := ?vy0) ?hiy0 (by kernel_rfl) (by kernel_rfl) (by kernel_rfl) ?hQy0 ?hyy0 HS ?resty0
            case hiy0 => simp only [List.getElem?_toArray, List.getElem?_cons_zero]; exact rfl
            case hQy0 => exact fun _ _ _ h => h
            case hyy0 =>
              refine Or.inl ⟨by rfl, ?_⟩
              intro wS hSw
              go_simp
              try with_reducible rfl
            try simp only [Act.put, List.setIfInBounds_toArray, List.set_cons_zero, List.set_cons_succ]
            refine wpAnyH_take (i := 1) (oi := ?oiy1) (v := ?vy1) ?hiy1 (by kernel_rfl) (by kernel_rfl) (by kernel_rfl) ?hQy1 ?hyy1 HS ?resty1
            case hiy1 => simp only [List.getElem?_toArray, List.getElem?_cons_succ, List.getElem?_cons_zero]; exact rfl
            case hQy1 => exact fun _ _ _ h => h
            case hyy1 =>
              refine Or.inl ⟨by rfl, ?_⟩
              intro wS hSw
              go_simp
              try with_reducible rfl
            try simp only [Act.put, List.setIfInBounds_toArray, List.set_cons_zero, List.set_cons_succ]
            refine wpAnyH_take (i := 2) (oi := ?oiy2) (v := ?vy2) ?hiy2 (by kernel_rfl) (by kernel_rfl) (by kernel_rfl) ?hQy2 ?hyy2 HS ?resty2
            case hiy2 => simp only [List.getElem?_toArray, List.getElem?_cons_succ, List.getElem?_cons_zero]; exact rfl
            case hQy2 => exact fun _ _ _ h => h
            case hyy2 =>
              refine Or.inl ⟨by rfl, ?_⟩
              intro wS hSw
              go_simp
              try with_reducible rfl
            try simp only [Act.put, List.setIfInBounds_toArray, List.set_cons_zero, List.set_cons_succ]
            refine wpAnyH_take (i := 3) (oi := ?oiy3) (v := ?vy3) ?hiy3 (by kernel_rfl) (by kernel_rfl) (by kernel_rfl) ?hQy3 ?hyy3 HS ?resty3
            case hiy3 => simp only [List.getElem?_toArray, List.getElem?_cons_succ, List.getElem?_cons_zero]; exact rfl
            case hQy3 => exact fun _ _ _ h => h
            case hyy3 =>
              refine Or.inl ⟨by rfl, ?_⟩
              intro wS hSw
              go_simp
              try with_reducible rfl
            try simp only [Act.put, List.setIfInBounds_toArray, List.set_cons_zero, List.set_cons_succ]
            refine wpAnyH_take (i := 4) (oi := ?oiy4) (v := ?vy4) ?hiy4 (by kernel_rfl) (by kernel_rfl) (by kernel_rfl) ?hQy4 ?hyy4 HS ?resty4
            case hiy4 => simp only [List.getElem?_toArray, List.getElem?_cons_succ, List.getElem?_cons_zero]; exact rfl
            case hQy4 => exact fun _ _ _ h => h
            case hyy4 =>
              refine Or.inl ⟨by rfl, ?_⟩
              intro wS hSw
              go_simp
              try with_reducible rfl
            try simp only [Act.put, List.setIfInBounds_toArray, List.set_cons_zero, List.set_cons_succ]
            refine wpAnyH_take (i := 5) (oi := ?oiy5) (v := ?vy5) ?hiy5 (by kernel_rfl) (by kernel_rfl) (by kernel_rfl) ?hQy5 ?hyy5 HS ?resty5
            case hiy5 => simp only [List.getElem?_toArray, List.getElem?_cons_succ, List.getElem?_cons_zero]; exact rfl
            case hQy5 => exact fun _ _ _ h => h
            case hyy5 =>
              refine Or.inl ⟨by rfl, ?_⟩
              intro wS hSw
              go_simp
              try with_reducible rfl
            try simp only [Act.put, List.setIfInBounds_toArray, List.set_cons_zero, List.set_cons_succ]
            refine wpAnyH_take (i := 6) (oi := ?oiy6) (v := undef) ?hiy6 (by kernel_rfl) (by kernel_rfl) (by kernel_rfl) ?hQy6 ?hyy6 HS ?resty6
            case hiy6 => simp only [List.getElem?_toArray, List.getElem?_cons_succ, List.getElem?_cons_zero]; exact rfl
            case hQy6 => exact fun _ _ _ h => h
            case hyy6 =>
              refine Or.inr ⟨by rfl, rfl⟩
            try simp only [Act.put, List.setIfInBounds_toArray, List.set_cons_zero, List.set_cons_succ]
            refine wpAnyH_take (i := 7) (oi := ?oiy7) (v := undef) ?hiy7 (by kernel_rfl) (by kernel_rfl) (by kernel_rfl) ?hQy7 ?hyy7 HS ?resty7
            case hiy7 => simp only [List.getElem?_toArray, List.getElem?_cons_succ, List.getElem?_cons_zero]; exact rfl
            case hQy7 => exact fun _ _ _ h => h
            case hyy7 =>
              refine Or.inr ⟨by rfl, rfl⟩
            try simp only [Act.put, List.setIfInBounds_toArray, List.set_cons_zero, List.set_cons_succ]
            refine wpAnyH_take (i := 8) (oi := ?oiy8) (v := undef) ?hiy8 (by kernel_rfl) (by kernel_rfl) (by kernel_rfl) ?hQy8 ?hyy8 HS ?resty8
            case hiy8 => simp only [List.getElem?_toArray, List.getElem?_cons_succ, List.getElem?_cons_zero]; exact rfl
            case hQy8 => exact fun _ _ _ h => h
            case hyy8 =>
              refine Or.inr ⟨by rfl, rfl⟩
            try simp only [Act.put, List.setIfInBounds_toArray, List.set_cons_zero, List.set_cons_succ]
            refine wpAnyH_take (i := 9) (oi := ?oiy9) (v := undef) ?hiy9 (by kernel_rfl) (by kernel_rfl) (by kernel_rfl) ?hQy9 ?hyy9 HS ?resty9
            case hiy9 => simp only [List.getElem?_toArray, List.getElem?_cons_succ, List.getElem?_cons_zero]; exact rfl
            case hQy9 => exact fun _ _ _ h => h
            case hyy9 =>
              refine Or.inr ⟨by rfl, rfl⟩
            try simp only [Act.put, List.setIfInBounds_toArray, List.set_cons_zero, List.set_cons_succ]
            refine wpAnyH_take (i := 10) (oi := ?oiy10) (v := undef) ?hiy10 (by kernel_rfl) (by kernel_rfl) (by kernel_rfl) ?hQy10 ?hyy10 HS ?resty10
            case hiy10 => simp only [List.getElem?_toArray, List.getElem?_cons_succ, List.getElem?_cons_zero]; exact rfl
            case hQy10 => exact fun _ _ _ h => h
            case hyy10 =>
              refine Or.inr ⟨by rfl, rfl⟩
            try simp only [Act.put, List.setIfInBounds_toArray, List.set_cons_zero, List.set_cons_succ]
            refine wpAnyH_take (i := 11) (oi := ?oiy11) (v := undef) ?hiy11 (by kernel_rfl) (by kernel_rfl) (by kernel_rfl) ?hQy11 ?hyy11 HS ?resty11
            case hiy11 => simp only [List.getElem?_toArray, List.getElem?_cons_succ, List.getElem?_cons_zero]; exact rfl
            case hQy11 => exact fun _ _ _ h => h
            case hyy11 =>
              refine Or.inr ⟨by rfl, rfl⟩
            try simp only [Act.put, List.setIfInBounds_toArray, List.set_cons_zero, List.set_cons_succ]
            refine wpAnyH_take (i := 12) (oi := ?oiy12) (v := undef) ?hiy12 (by kernel_rfl) (by kernel_rfl) (by kernel_rfl) ?hQy12 ?hyy12 HS ?resty12
            case hiy12 => simp only [List.getElem?_toArray, List.getElem?_cons_succ, List.getElem?_cons_zero]; exact rfl
            case hQy12 => exact fun _ _ _ h => h
            case hyy12 =>
              refine Or.inr ⟨by rfl, rfl⟩
            try simp only [Act.put, List.setIfInBounds_toArray, List.set_cons_zero, List.set_cons_succ]
            refine wpAnyH_take (i := 13) (oi := ?oiy13) (v := undef) ?hiy13 (by kernel_rfl) (by kernel_rfl) (by kernel_rfl) ?hQy13 ?hyy13 HS ?resty13
            case hiy13 => simp only [List.getElem?_toArray, List.getElem?_cons_succ, List.getElem?_cons_zero]; exact rfl
            case hQy13 => exact fun _ _ _ h => h
            case hyy13 =>
              refine Or.inr ⟨by rfl, rfl⟩
            try simp only [Act.put, List.setIfInBounds_toArray, List.set_cons_zero, List.set_cons_succ]
            refine wpAnyH_take (i := 14) (oi := ?oiy14) (v := undef) ?hiy14 (by kernel_rfl) (by kernel_rfl) (by kernel_rfl) ?hQy14 ?hyy14 HS ?resty14
            case hiy14 => simp only [List.getElem?_toArray, List.getElem?_cons_succ, List.getElem?_cons_zero]; exact rfl
            case hQy14 => exact fun _ _ _ h => h
            case hyy14 =>
              refine Or.inr ⟨by rfl, rfl⟩
            try simp only [Act.put, List.setIfInBounds_toArray, List.set_cons_zero, List.set_cons_succ]
            refine wpAnyH_take (i := 15) (oi := ?oiy15) (v := undef) ?hiy15 (by kernel_rfl) (by kernel_rfl) (by kernel_rfl) ?hQy15 ?hyy15 HS ?resty15
            case hiy15 => simp only [List.getElem?_toArray, List.getElem?_cons_succ, List.getElem?_cons_zero]; exact rfl
            case hQy15 => exact fun _ _ _ h => h
            case hyy15 =>
              refine Or.inr ⟨by rfl, rfl⟩
            try simp only [Act.put, List.setIfInBounds_toArray, List.set_cons_zero, List.set_cons_succ]
            refine wpAnyH_take (i := 16) (oi := ?oiy16) (v := undef) ?hiy16 (by kernel_rfl) (by kernel_rfl) (by kernel_rfl) ?hQy16 ?hyy16 HS ?resty16
            case hiy16 => simp only [List.getElem?_toArray, List.getElem?_cons_succ, List.getElem?_cons_zero]; exact rfl
            case hQy16 => exact fun _ _ _ h => h
            case hyy16 =>
              refine Or.inr ⟨by rfl, rfl⟩
            try simp only [Act.put, List.setIfInBounds_toArray, List.set_cons_zero, List.set_cons_succ]
            refine wpAnyH_take (i := 17) (oi := ?oiy17) (v := ?vy17) ?hiy17 (by kernel_rfl) (by kernel_rfl) (by kernel_rfl) ?hQy17 ?hyy17 HS ?resty17
            case hiy17 => simp only [List.getElem?_toArray, List.getElem?_cons_succ, List.getElem?_cons_zero]; exact rfl
            case hQy17 => exact fun _ _ _ h => h
            case hyy17 =>
              refine Or.inl ⟨by rfl, ?_⟩
              intro wS hSw
              go_simp
              try with_reducible rfl
            try simp only [Act.put, List.setIfInBounds_toArray, List.set_cons_zero, List.set_cons_succ]
            refine wpAnyH_take (i := 18) (oi := ?oiy18) (v := ?vy18) ?hiy18 (by kernel_rfl) (by kernel_rfl) (by kernel_rfl) ?hQy18 ?hyy18 HS ?resty18
            case hiy18 => simp only [List.getElem?_toArray, List.getElem?_cons_succ, List.getElem?_cons_zero]; exact rfl
            case hQy18 => exact fun _ _ _ h => h
            case hyy18 =>
              refine Or.inl ⟨by rfl, ?_⟩
              intro wS hSw
              go_simp
              try with_reducible rfl
            try simp only [Act.put, List.setIfInBounds_toArray, List.set_cons_zero, List.set_cons_succ]
            refine wpAnyH_take (i := 19) (oi := ?oiy19) (v := ?vy19) ?hiy19 (by kernel_rfl) (by kernel_rfl) (by kernel_rfl) ?hQy19 ?hyy19 HS ?resty19
            case hiy19 => simp only [List.getElem?_toArray, List.getElem?_cons_succ, List.getElem?_cons_zero]; exact rfl
            case hQy19 => exact fun _ _ _ h => h
            case hyy19 =>
              refine Or.inl ⟨by rfl, ?_⟩
              intro wS hSw
              go_simp
              try with_reducible rfl
            try simp only [Act.put, List.setIfInBounds_toArray, List.set_cons_zero, List.set_cons_succ]
            refine wpAnyH_take (i := 20) (oi := ?oiy20) (v := ?vy20) ?hiy20 (by kernel_rfl) (by kernel_rfl) (by kernel_rfl) ?hQy20 ?hyy20 HS ?resty20
            case hiy20 => simp only [List.getElem?_toArray, List.getElem?_cons_succ, List.getElem?_cons_zero]; exact rfl
            case hQy20 => exact fun _ _ _ h => h
            case hyy20 =>
              refine Or.inl ⟨by rfl, ?_⟩
              intro wS hSw
              go_simp
              try with_reducible rfl
            try simp only [Act.put, List.setIfInBounds_toArray, List.set_cons_zero, List.set_cons_succ]
            refine wpAnyH_take (i := 21) (oi := ?oiy21) (v := ?vy21) ?hiy21 (by kernel_rfl) (by kernel_rfl) (by kernel_rfl) ?hQy21 ?hyy21 HS ?resty21
            case hiy21 => simp only [List.getElem?_toArray, List.getElem?_cons_succ, List.getElem?_cons_zero]; exact rfl
            case hQy21 => exact fun _ _ _ h => h
            case hyy21 =>
              refine Or.inl ⟨by rfl, ?_⟩
              intro wS hSw
              go_simp
              try with_reducible rfl
            try simp only [Act.put, List.setIfInBounds_toArray, List.set_cons_zero, List.set_cons_succ]
            refine wpAnyH_take (i := 22) (oi := ?oiy22) (v := ?vy22) ?hiy22 (by kernel_rfl) (by kernel_rfl) (by kernel_rfl) ?hQy22 ?hyy22 HS ?resty22
            case hiy22 => simp only [List.getElem?_toArray, List.getElem?_cons_succ, List.getElem?_cons_zero]; exact rfl
            case hQy22 => exact fun _ _ _ h => h
            case hyy22 =>
              refine Or.inl ⟨by rfl, ?_⟩
              intro wS hSw
              go_simp
              try with_reducible rfl
            try simp only [Act.put, List.setIfInBounds_toArray, List.set_cons_zero, List.set_cons_succ]
            refine wpAnyH_take (i := 23) (oi := ?oiy23) (v := ?vy23) ?hiy23 (by kernel_rfl) (by kernel_rfl) (by kernel_rfl) ?hQy23 ?hyy23 HS ?resty23
            case hiy23 => simp only [List.getElem?_toArray, List.getElem?_cons_succ, List.getElem?_cons_zero]; exact rfl
            case hQy23 => exact fun _ _ _ h => h
            case hyy23 =>
              refine Or.inl ⟨by rfl, ?_⟩
              intro wS hSw
              subst hSw
              go_simp
              try with_reducible rfl
            try simp only [Act.put, List.setIfInBounds_toArray, List.set_cons_zero, List.set_cons_succ]
            refine wpAnyH_take (i := 24) (oi := ?oiy24) (v := ?vy24) ?hiy24 (by kernel_rfl) (by kernel_rfl) (by kernel_rfl) ?hQy24 ?hyy24 HS ?resty24
            case hiy24 => simp only [List.getElem?_toArray, List.getElem?_cons_succ, List.getElem?_cons_zero]; exact rfl
            case hQy24 => exact fun _ _ _ h => h
            case hyy24 =>
              refine Or.inl ⟨by rfl, ?_⟩
              intro wS hSw
              go_simp
              try with_reducible rfl
            try simp only [Act.put, List.setIfInBounds_toArray, List.set_cons_zero, List.set_cons_succ]
            refine wpAnyH_take (i := 25) (oi := ?oiy25) (v := ?vy25) ?hiy25 (by kernel_rfl) (by kernel_rfl) (by kernel_rfl) ?hQy25 ?hyy25 HS ?resty25
            case hiy25 => simp only [List.getElem?_toArray, List.getElem?_cons_succ, List.getElem?_cons_zero]; exact rfl
            case hQy25 => exact fun _ _ _ h => h
            case hyy25 =>
              refine Or.inl ⟨by rfl, ?_⟩
              intro wS hSw
              go_simp
              try with_reducible rfl
            try simp only [Act.put, List.setIfInBounds_toArray, List.set_cons_zero, List.set_cons_succ]
            refine wpAnyH_take (i := 26) (oi := ?oiy26) (v := ?vy26) ?hiy26 (by kernel_rfl) (by kernel_rfl) (by kernel_rfl) ?hQy26 ?hyy26 HS ?resty26
            case hiy26 => simp only [List.getElem?_toArray, List.getElem?_cons_succ, List.getElem?_cons_zero]; exact rfl
            case hQy26 => exact fun _ _ _ h => h
            case hyy26 =>
              refine Or.inl ⟨by rfl, ?_⟩
              intro wS hSw
              go_simp
              try with_reducible rfl
            try simp only [Act.put, List.setIfInBounds_toArray, List.set_cons_zero, List.set_cons_succ]
            refine wpAnyH_take (i := 27) (oi := ?oiy27) (v := ?vy27) ?hiy27 (by kernel_rfl) (by kernel_rfl) (by kernel_rfl) ?hQy27 ?hyy27 HS ?resty27
            case hiy27 => simp only [List.getElem?_toArray, List.getElem?_cons_succ, List.getElem?_cons_zero]; exact rfl
            case hQy27 => exact fun _ _ _ h => h
            case hyy27 =>
              refine Or.inl ⟨by rfl, ?_⟩
              intro wS hSw
              go_simp
              try with_reducible rfl
            try simp only [Act.put, List.setIfInBounds_toArray, List.set_cons_zero, List.set_cons_succ]
            refine wpAnyH_done (by kernel_rfl) ?_ _
            clear HS k0 k1 k2 g0
            go_wp2
            go_roundg (M + 2 - (q + 1))
            case measure => have := hgq.out; have := HQL.out; omega
            case rel => exact ⟨q + 1, congrArg (Value.int .u64) (by first | exact wq | omega | rfl), hid rfl, hid (by have := HQL.out; omega), HT5⟩
      have q3 : decide ((q : Int) ≤ (M1 : Int)) = false := by have := HM1.out; simp; omega
      have q4 : decide (q ≤ M1) = false := by have := HM1.out; simp; omega
      obtain ⟨F, hd, -, -, -⟩ := (hT10.out.bel (wr' := wr.drew) ((Below.refl _ _).drew)).one
      have hcw := sealed_c _ F g s' hd
      rw [HSL.out] at hcw
      have HT11 : Hid (VTw w wr.drew g ge s' t' (fun _ => False)) := hid (hT10.out.bel ((Below.refl _ _).drew))
      have f0' : wr.drew.cell? ⟨ge, 0, none⟩ = some (.slice A9 M c9) := (World.cell?_of_block rfl).trans f0
      have hlen : ((M : Int) != (M : Int)) = false := by simp
      clear hd hgq hq hqg HR9 hT10
      as_aux_lemma =>
      go_wp2_with fail
      clear f0
      refine wp_region_held_drew (S := fun wx => wx = wr.drew) (by kernel_rfl) rfl (fun HS => ?_)
      generalize wr.drew = w9 at *
      refine wpAnyH_take (i := 0) (oi := ?oix0) (v := ?vx0) ?hix0 (by kernel_rfl) (by kernel_rfl) (by kernel_rfl) ?hQx0 ?hyx0 HS ?restx0
      case hix0 => simp only [List.getElem?_toArray, List.getElem?_cons_zero]; exact rfl
      case hQx0 => exact fun _ _ _ h => h
      case hyx0 =>
        refine Or.inl ⟨by rfl, ?_⟩
        intro wS hSw
        go_simp
        try with_reducible rfl
      try simp only [Act.put, List.setIfInBounds_toArray, List.set_cons_zero, List.set_cons_succ]
      refine wpAnyH_take (i := 2) (oi := ?oix2) (v := ?vx2) ?hix2 (by kernel_rfl) (by kernel_rfl) (by kernel_rfl) ?hQx2 ?hyx2 HS ?restx2
      case hix2 => simp only [List.getElem?_toArray, List.getElem?_cons_succ, List.getElem?_cons_zero]; exact rfl
      case hQx2 => exact fun _ _ _ h => h
      case hyx2 =>
        refine Or.inl ⟨by rfl, ?_⟩
        intro wS hSw
        go_simp
        try with_reducible rfl
      try simp only [Act.put, List.setIfInBounds_toArray, List.set_cons_zero, List.set_cons_succ]
      refine wpAnyH_take (i := 3) (oi := ?oix3) (v := ?vx3) ?hix3 (by kernel_rfl) (by kernel_rfl) (by kernel_rfl) ?hQx3 ?hyx3 HS ?restx3
      case hix3 => simp only [List.getElem?_toArray, List.getElem?_cons_succ, List.getElem?_cons_zero]; exact rfl
      case hQx3 => exact fun _ _ _ h => h
      case hyx3 =>
        refine Or.inl ⟨by rfl, ?_⟩
        intro wS hSw
        go_simp
        try with_reducible rfl
      try simp only [Act.put, List.setIfInBounds_toArray, List.set_cons_zero, List.set_cons_succ]
      refine wpAnyH_take (i := 4) (oi := ?oix4) (v := ?vx4) ?hix4 (by kernel_rfl) (by kernel_rfl) (by kernel_rfl) ?hQx4 ?hyx4 HS ?restx4
      case hix4 => simp only [List.getElem?_toArray, List.getElem?_cons_succ, List.getElem?_cons_zero]; exact rfl
      case hQx4 => exact fun _ _ _ h => h
      case hyx4 =>
        refine Or.inl ⟨by rfl, ?_⟩
        intro wS hSw
        go_simp
        try with_reducible rfl
      try simp only [Act.put, List.setIfInBounds_toArray, List.set_cons_zero, List.set_cons_succ]
      refine wpAnyH_take (i := 5) (oi := ?oix5) (v := ?vx5) ?hix5 (by kernel_rfl) (by kernel_rfl) (by kernel_rfl) ?hQx5 ?hyx5 HS ?restx5
      case hix5 => simp only [List.getElem?_toArray, List.getElem?_cons_succ, List.getElem?_cons_zero]; exact rfl
      case hQx5 => exact fun _ _ _ h => h
      case hyx5 =>
        refine Or.inl ⟨by rfl, ?_⟩
        intro wS hSw
        subst hSw
        go_simp
        try with_reducible rfl
      try simp only [Act.put, List.setIfInBounds_toArray, List.set_cons_zero, List.set_cons_succ]
      refine wpAnyH_take (i := 6) (oi := ?oix6) (v := ?vx6) ?hix6 (by kernel_rfl) (by kernel_rfl) (by kernel_rfl) ?hQx6 ?hyx6 HS ?restx6
      case hix6 => simp only [List.getElem?_toArray, List.getElem?_cons_succ, List.getElem?_cons_zero]; exact rfl
      case hQx6 => exact fun _ _ _ h => h
      case hyx6 =>
        refine Or.inl ⟨by rfl, ?_⟩
        intro wS hSw
        go_simp
        try with_reducible rfl
      try simp only [Act.put, List.setIfInBounds_toArray, List.set_cons_zero, List.set_cons_succ]
      refine wpAnyH_ready (rs := [1]) (by kernel_rfl) (by simp) ?_
      refine AllReadyH.cons (o := ?ox1) ?hox1 (fun K hK => ?stepx1) AllReadyH.nil
      case hox1 => simp only [List.getElem?_toArray, List.getElem?_cons_succ, List.getElem?_cons_zero]; exact rfl
      go_simp
      refine hcw.mono ?_
      rintro e wa ⟨rfl, rfl⟩
      refine hK.out _ _ HS (fun HS => ?_)
      clear hK K
      try simp only [Act.put, List.setIfInBounds_toArray, List.set_cons_zero, List.set_cons_succ]
      refine wpAnyH_take (i := 7) (oi := ?oix7) (v := ?vx7) ?hix7 (by kernel_rfl) (by kernel_rfl) (by kernel_rfl) ?hQx7 ?hyx7 HS ?restx7
      case hix7 => simp only [List.getElem?_toArray, List.getElem?_cons_succ, List.getElem?_cons_zero]; exact rfl
      case hQx7 => exact fun _ _ _ h => h
      case hyx7 =>
        refine Or.inl ⟨by rfl, ?_⟩
        intro wS hSw
        go_simp
        try with_reducible rfl
      try simp only [Act.put, List.setIfInBounds_toArray, List.set_cons_zero, List.set_cons_succ]
      refine wpAnyH_done (by kernel_rfl) ?_ _
      clear HS hcw f0' hlen
      go_wp2
      go_roundg (n - (j + 1))
      case measure => have := hgk.out; have := HLT.out; omega
      case rel => exact ⟨j + 1, s', t', congrArg (Value.int .i64) (by first | exact wj | omega | rfl), hid rfl, hid (by have := HLT.out; omega), hid (by have := HJ.out; omega), hS7, hid (by rw [HSL.out]; exact hL7.out), hG7, HT11⟩
  · have j3 : decide ((j : Int) < (n : Int)) = false := by simp; omega
    have j4 : decide (j < n) = false := by simp; omega
    have hc := under_far w wr g ge s t _ hT.out (by have := hsL.out; have := hj60.out; omega)
    clear hge hgk hj
    as_aux_lemma =>
    go_wp2_with fail
    refine hc.mono ?_
    rintro e w' ⟨k', rfl, hb'⟩
    have HBX := hid (((hT.out.bel hb').bel (wr' := w'.alloc (.cells #[.int .i64 k'.t, .int .i64 k'.c, .int .i64 k'.e] 32)) ((Below.refl _ _).alloc (Nat.le_refl _) _)).below)
    clear hc hb'
    go_wp2
    go_ret
    exact ⟨rfl, HBX.out⟩

theorem walkVaultPlays (a0 : Option Addr) (n0 c0 : Nat) (w : World) (w0 : OpsZ w w.heap.size a0 n0 ∧ n0 ≤ 9223372036854775807) :
    Calls Try.prog 3 #[.slice a0 n0 c0] w fun e w' => e = .returned (.bool true) ∧ Below w.heap.size w w' := vplays_core a0 n0 c0 w w0.1 w0.2
end Go.Proofs.Ytaailoodhaibiaa
