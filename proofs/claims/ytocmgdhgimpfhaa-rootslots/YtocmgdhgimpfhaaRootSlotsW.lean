/- The walk of RootSlots: it answers true, whatever the input. -/
import Derived.Test.YtocmgdhgimpfhaaRtLaw
import Derived.Test.YtocmgdhgimpfhaaFrameV
namespace Go.Proofs.Ytocmgdhgimpfhaa
open Go.RowKit

/-- Behind j Puts upon a device of five blocks: what the blocks that are no root's read as. -/
structure Slt (d : St) (v : Va) (c : Ce) (now L : List UInt8) (j : Nat) : Prop where
  rt : Rt d v c now false
  on : d.lim = none
  n5 : d.n = 5
  ver : c.ver = j
  vw : ∀ k, 2 ≤ k → k < 5 → app d.W d.K k = pad L
  W : 0 < j → d.W = []
  WL : d.W.length ≤ 3
  VL : v.L.length ≤ j
def slt0 (L : List UInt8) : St := ⟨5, zero, [(2, pad L), (3, pad L), (4, pad L)], none⟩
theorem slt0_is {L : List UInt8} (h : L.length ≤ 16) : wrS (wrS (wrS (St.new 5) 2 L) 3 L) 4 L = slt0 L := by
  have b : ∀ (W : Wr) (i : Int), 0 ≤ i → i < 5 → ¬ (bad ⟨5, zero, W, none⟩ i L.length ∨ (⟨5, zero, W, none⟩ : St).lim = some 0) := by
    intro W i h1 h2
    rintro (e | e)
    · unfold bad at e; dsimp only at e; omega
    · cases e
  have e1 : wrS (St.new 5) 2 L = ⟨5, zero, [(2, pad L)], none⟩ := by unfold wrS; exact if_neg (b [] 2 (by decide) (by decide))
  have e2 : wrS ⟨5, zero, [(2, pad L)], none⟩ 3 L = ⟨5, zero, [(2, pad L), (3, pad L)], none⟩ := by unfold wrS; exact if_neg (b _ 3 (by decide) (by decide))
  have e3 : wrS ⟨5, zero, [(2, pad L), (3, pad L)], none⟩ 4 L = slt0 L := by unfold wrS; exact if_neg (b _ 4 (by decide) (by decide))
  rw [e1, e2, e3]
theorem Slt.new {L : List UInt8} : Slt (slt0 L) Va.new ⟨0, 0⟩ [] L 0 := by
  refine ⟨⟨(by show 2 ≤ 5; decide), rfl, fun k x hx => by simp [Va.new] at hx, Nat.zero_le _, fun h => absurd h (by decide), fun _ h => absurd h (by decide)⟩, rfl, rfl, rfl, fun k h1 h2 => ?_, fun h => absurd h (by decide), Nat.le_refl _, Nat.le_refl _⟩
  rcases (show k = 2 ∨ k = 3 ∨ k = 4 by omega) with rfl | rfl | rfl <;> simp [slt0, app, upd]
section
variable {d : St} {v : Va} {c : Ce} {now L : List UInt8} {j : Nat}
theorem Slt.raw (h : Slt d v c now L j) {k : Nat} (hk : k < 5) : rdE d (k : Int) = 0 ∧ rdB d (k : Int) = app d.W d.K k := by
  have h1 : ¬ bad d (k : Int) 0 := by unfold bad; rw [h.n5]; omega
  have h2 : ¬ d.lim = some 0 := by rw [h.on]; simp
  refine ⟨by unfold rdE; rw [if_neg h1, if_neg h2], ?_⟩
  unfold rdB
  rw [if_neg (by rintro (e | e); exact h1 e; exact h2 e), Int.toNat_natCast]
theorem Slt.next (h : Slt d v c now L j) (hj : j ≤ 1000) {l : List UInt8} (hl : l.length ≤ 500) :
    ptE d v c l.length = 0 ∧ Slt (ptD d v c l.length) (ptV d v c l) (ptC d v c l.length) l L (j + 1) ∧
    rdB (ptD d v c l.length) (((j + 1 + 1) % 2 : Nat) : Int) = rdB d ((j % 2 : Nat) : Int) ∧ gtE (ptD d v c l.length) (ptV d v c l) (ptC d v c l.length) = 0 ∧ gtB (ptD d v c l.length) (ptV d v c l) (ptC d v c l.length) = l := by
  obtain ⟨p1, p2, p3⟩ := pt_none (c := c) h.rt.n h.rt.G (l := l) (by omega) h.on
  have hv := h.ver
  have hVL := h.VL
  have hS : Slt (ptD d v c l.length) (ptV d v c l) (ptC d v c l.length) l L (j + 1) := by
    have hr : Rt (ptD d v c l.length) (ptV d v c l) (ptC d v c l.length) l false := by
      rcases h.rt.put (by omega) (l := l) (by omega) with ⟨_, h2, _⟩ | ⟨h1, _, _⟩
      · exact h2
      · rw [p1] at h1; cases h1
    refine ⟨hr, by rw [p2], by rw [p2]; exact h.n5, by rw [p3]; show c.ver + 1 = _; omega, fun k h1 h2 => ?_, fun _ => by rw [p2], by rw [p2]; exact Nat.zero_le _, by have := (ptV_L d v c l).1; omega⟩
    rw [p2]
    show upd _ _ _ k = _
    rw [upd_other _ _ (by omega)]
    exact h.vw k h1 h2
  refine ⟨p1, hS, ?_, ?_⟩
  · rw [(hS.raw (k := (j + 1 + 1) % 2) (by omega)).2, (h.raw (k := j % 2) (by omega)).2, p2]
    show upd _ _ _ _ = _
    rw [upd_other _ _ (by omega), show (j + 1 + 1) % 2 = j % 2 by omega]
  · rcases hS.rt.got (by have := hS.VL; omega) (by have := hS.ver; omega) with h | ⟨_, h⟩ | ⟨_, h⟩
    · exact h
    · rw [hS.on] at h; cases h
    · cases h
end
theorem mod2w (n : Nat) : Int.tmod (n : Int) 2 = ((n % 2 : Nat) : Int) ∧ wrap64 ((n % 2 : Nat) : Int) = ((n % 2 : Nat) : Int) := ⟨(mod2 n).2.1, (mod2 n).2.2⟩

set_option maxRecDepth 100000 in
set_option maxHeartbeats 8000000 in
theorem walkRootSlots (A0 : Option Addr) (n0 c0 : Nat) (A1 : Option Addr) (n1 c1 : Nat) (zs : List Int) (w : World) (h0 : RowsW w w.heap.size A0 n0 ∧ n0 ≤ 9223372036854775807) (h1 : IsRow .u8 w A1 n1 c1 zs) :
    Calls Try.prog 6 #[.slice A0 n0 c0, .slice A1 n1 c1] w fun e w' => e = .returned (.bool true) ∧ Below w.heap.size w w' := by
  obtain ⟨L, hl, hc1, hc2⟩ := argB h1
  have HLT_ := hid hl
  have HRW := hid h0.1
  have HNM := hid h0.2
  clear hl hc1 hc2 h0 h1
  go_enter Try.func6, Try.ntmps6
  go_wp2_with fail
  refine (rtfirst_c w).mono ?_
  rintro e w1 ⟨rfl, hb1⟩
  have HB1 := hid hb1
  clear hb1
  by_cases hn1 : 16 < n1
  · have e1 : decide ((16 : Int) < (n1 : Int)) = true := by simp; omega
    have e2 : decide (16 < n1) = true := by simpa using hn1
    clear hn1
    as_aux_lemma =>
    go_wp2
    go_ret
    exact ⟨rfl, HB1.out⟩
  have e1 : decide ((16 : Int) < (n1 : Int)) = false := by simp; omega
  have e2 : decide (16 < n1) = false := by simp; omega
  have HN1 : Hid (n1 ≤ 16) := hid (by omega)
  clear hn1
  go_wp2_with fail
  clear e1 e2
  refine (dnew_on w w1 HB1.out 5 (by omega) (by omega)).mono ?_
  rintro e w2 ⟨gd, rfl, hv2, -⟩
  have HV2 := hid hv2
  clear hv2 HB1
  go_wp2_with fail
  refine (vnew_on HV2.out).mono ?_
  rintro e w3 ⟨gv, rfl, hv3, -⟩
  have HV4 := hid (tc_new hv3).1
  clear hv3 HV2
  go_wp2_with fail
  generalize w3.heap.size = gc at *
  generalize w3.alloc (.cells #[.int .i64 0, .int .i64 0] 33) = w4 at *
  refine wp_loop_rounds 4 ?_
  rw [rounds_succ]
  go_wp2_with fail
  refine (dwrite_on (tc_d gv Va.new gc ⟨0, 0⟩) HV4.out 2 A1 n1 c1 L ((HLT_.out.below HV4.out.below (Nat.le_refl _)).wide (Nat.le_refl _) HV4.out.below.size) (fun h0 x hx => .inr (Bts.lt HLT_.out h0 x hx)) (by decide)).mono ?_
  rintro e w5 ⟨rfl, hv5, -⟩
  have HV5 := hid hv5
  clear hv5 HV4
  go_wp2_with fail
  rw [rounds_succ]
  go_wp2_with fail
  refine (dwrite_on (tc_d gv Va.new gc ⟨0, 0⟩) HV5.out 3 A1 n1 c1 L ((HLT_.out.below HV5.out.below (Nat.le_refl _)).wide (Nat.le_refl _) HV5.out.below.size) (fun h0 x hx => .inr (Bts.lt HLT_.out h0 x hx)) (Nat.le_trans (wrS_W _ _ _) (by decide))).mono ?_
  rintro e w6 ⟨rfl, hv6, -⟩
  have HV6 := hid hv6
  clear hv6 HV5
  go_wp2_with fail
  rw [rounds_succ]
  go_wp2_with fail
  refine (dwrite_on (tc_d gv Va.new gc ⟨0, 0⟩) HV6.out 4 A1 n1 c1 L ((HLT_.out.below HV6.out.below (Nat.le_refl _)).wide (Nat.le_refl _) HV6.out.below.size) (fun h0 x hx => .inr (Bts.lt HLT_.out h0 x hx)) (Nat.le_trans (wrS_W _ _ _) (Nat.le_trans (Nat.add_le_add_right (wrS_W _ _ _) 1) (by decide)))).mono ?_
  rintro e w7 ⟨rfl, hv7, -⟩
  rw [slt0_is (by have h1 := HLT_.out.len; have h2 := HN1.out; omega)] at hv7
  have HV7 := hid hv7
  clear hv7 HV6
  go_wp2_with fail
  rw [rounds_succ]
  go_wp2_with fail
  go_loopg [43] n0 (fun kk iv wr => ∃ (j : Nat) (d : St) (v : Va) (c : Ce) (now : List UInt8), iv = .int .i64 (j : Int) ∧ Hid (kk = n0 - j) ∧ Hid (j ≤ n0) ∧ Hid (j ≤ 20) ∧ Hid (Slt d v c now L j) ∧ Hid (c.mark ≤ 600000) ∧ Hid (On w (TC gd d gv v gc c) wr (fun _ => False)))
  case atStart => exact ⟨0, slt0 L, Va.new, ⟨0, 0⟩, [], rfl, hid (by omega), hid (Nat.zero_le _), hid (Nat.zero_le _), hid Slt.new, hid (Nat.zero_le _), HV7⟩
  case round =>
  obtain ⟨j, d, v, c, now, rfl, hgk, hj, hj20, hS, hM, hV⟩ := hrel
  clear HV7
  rcases Nat.lt_or_ge j n0 with hlt | hge
  · have HLT := hid hlt
    obtain ⟨b, off, B, m, k, l, rfl, hbl, hcell, hbt, hmk, hmx⟩ := HRW.out j hlt
    have hce : wr.cell? ⟨b, off + j, none⟩ = some (.slice B m k) := (hV.out.below.cell (p := ⟨b, off + j, none⟩) hbl).trans hcell
    have HBT := hid hbt
    have HMK := hid hmk
    have HMX := hid hmx
    have j1 : (0 : Int) ≤ (j : Int) := by omega
    have j2 : (j : Int) < (n0 : Int) := by omega
    have j3 : decide ((j : Int) < (n0 : Int)) = true := by simpa using hlt
    have j4 : decide (j < n0) = true := by simpa using hlt
    have wj : wrap64 ((j : Int) + 1) = ((j + 1 : Nat) : Int) := by have := HNM.out; unfold wrap64; omega
    clear hcell hbt
    by_cases h20 : 20 ≤ j ∨ 500 < m
    · -- it breaks off
      have hw0 : (d.W.length = 0) ∨ (j = 0 ∧ 500 < m) := by
        rcases Nat.eq_zero_or_pos j with e | e
        · right; omega
        · left; rw [hS.out.W e]; rfl
      have HX := hid hV.out
      have HCE := hid hce
      have ht : decide ((20 : Int) ≤ (j : Int)) = true ∨ (decide ((20 : Int) ≤ (j : Int)) = false ∧ decide ((500 : Int) < (m : Int)) = true) := by
        simp only [decide_eq_true_eq, decide_eq_false_iff_not]
        omega
      have HBX := hid hV.out.below
      have hwt := dwaiting_on (tc_d gv v gc c) hV.out
      have HWT := hid hwt
      clear h20 hmk hmx hwt
      rcases hw0 with hw0 | ⟨hw1, hw2⟩
      · rw [hw0] at HWT
        clear hw0 hlt
        rcases ht with e1 | ⟨e1, e2⟩
        all_goals
          as_aux_lemma =>
          go_wp2_with fail
          refine HWT.out.mono ?_
          rintro e w5 ⟨rfl, rfl⟩
          go_wp2
          go_ret
          exact ⟨rfl, HBX.out⟩
      · have hn0 : ((n0 : Int) == 0) = false := by simp; omega
        have hn2 : (n0 == 0) = false := by simp; omega
        have hn3 : decide ((n0 : Int) = 0) = false := by simp; omega
        have hn4 : (0 : Int) < (n0 : Int) := by omega
        have m1 : decide ((500 : Int) < (m : Int)) = true := by simp; omega
        have m2 : decide (500 < m) = true := by simpa using hw2
        have e1 : decide ((20 : Int) ≤ (j : Int)) = false := by simp; omega
        subst hw1
        have hce0 : wr.cell? ⟨b, off, none⟩ = some (.slice B m k) := hce
        rcases Nat.eq_zero_or_pos d.W.length with hz | hz
        · rw [hz] at HWT
          clear hz hlt hbl ht hw2
          as_aux_lemma =>
          go_wp2_with fail
          refine HWT.out.mono ?_
          rintro e w5 ⟨rfl, rfl⟩
          go_wp2
          go_ret
          exact ⟨rfl, HBX.out⟩
        · generalize d.W.length = Q at *
          have q1 : ((Q : Int) == 0) = false := by simp; omega
          have q2 : (Q == 0) = false := by simp; omega
          have q3 : decide ((Q : Int) = 0) = false := by simp; omega
          clear hz hlt hbl ht hw2
          as_aux_lemma =>
          go_wp2_with fail
          refine HWT.out.mono ?_
          rintro e w5 ⟨rfl, rfl⟩
          go_wp2
          go_ret
          exact ⟨rfl, HBX.out⟩
    have e1 : decide ((20 : Int) ≤ (j : Int)) = false := by simp; omega
    have e2 : decide ((500 : Int) < (m : Int)) = false := by simp; omega
    have e3 : decide (500 < m) = false := by simp; omega
    have H20 : Hid (j < 20 ∧ m ≤ 500) := hid (by omega)
    obtain ⟨J, hJ⟩ : ∃ J : Nat, J = j + 1 := ⟨_, rfl⟩
    obtain ⟨J2, hJ2⟩ : ∃ J2 : Nat, J2 = J + 1 := ⟨_, rfl⟩
    obtain ⟨r1, r2⟩ := mod2w j
    obtain ⟨s1, s2⟩ := mod2w J2
    obtain ⟨P, hP⟩ : ∃ P : Nat, P = j % 2 := ⟨_, rfl⟩
    obtain ⟨Q, hQ⟩ : ∃ Q : Nat, Q = J2 % 2 := ⟨_, rfl⟩
    rw [← hP] at r1 r2
    rw [← hQ] at s1 s2
    have HJ : Hid (J = j + 1 ∧ J2 = j + 1 + 1 ∧ P = j % 2 ∧ Q = (j + 1 + 1) % 2 ∧ P < 5 ∧ Q < 5) := hid (by clear r1 r2 s1 s2; omega)
    rw [← hJ] at wj
    have wj2 : wrap64 ((J : Int) + 1) = (J2 : Int) := by clear r1 r2 s1 s2 hP hQ; have := hj20.out; unfold wrap64; omega
    have hraw := hS.out.raw (k := P) HJ.out.2.2.2.2.1
    clear hJ hJ2 hP hQ
    have hver := cver_c (tc_c gd d gv v) hV.out
    rw [hS.out.ver] at hver
    have HRAW := hid hraw
    have HVER := hid hver
    clear h20 hlt hmk hmx hbl hraw hver
    go_wp2_with fail
    refine HVER.out.mono ?_
    rintro e w5 ⟨rfl, rfl⟩
    clear HVER hce
    go_wp2_with fail
    refine (dread_on (tc_d gv v gc c) hV.out (P : Int)).mono ?_
    rintro e w6 ⟨A6, n6, k6, rfl, ho6, -, hb6⟩
    rw [HRAW.out.1]
    have H6 := hid (On.row hV.out (TC.ok gd d gv v gc c) hb6 ho6)
    have O6 := hid ho6
    obtain ⟨p1, p2, p3, p4, p5⟩ := hS.out.next (by have := hj20.out; omega) (l := l) (by have h1 := HBT.out.len; have h2 := H20.out.2; omega)
    have hwr := put_on (C := fun P => P) (w := w) (gd := gd) (gv := gv) (gc := gc) (d := d) (v := v) (c := c) Foc.self (fun _ h => h) H6.out B m k l ((HBT.out.below H6.out.below (Nat.le_refl _)).wide (Nat.le_refl _) H6.out.below.size) (Nat.le_trans hS.out.WL (by decide)) (by have := hS.out.VL; have := hj20.out; omega) (by have := hS.out.ver; have := hj20.out; omega)
    rw [p1] at hwr
    have HM3 : Hid ((ptC d v c l.length).mark ≤ 600000) := hid (by have h1 := (ptC_ver d v c l.length).2; have := hM.out; have := hS.out.VL; have := hj20.out; omega)
    have HWR := hid hwr
    have HP2 := hid p2
    rw [← HJ.out.2.2.1, ← HJ.out.2.2.2.1] at p3
    have HP3 := hid p3
    have HP4 := hid (And.intro p4 p5)
    clear p1 p2 p3 p4 p5 hwr ho6 hb6 hM r1 r2 hV
    generalize ptD d v c l.length = d2 at *
    generalize ptV d v c l = v2 at *
    generalize ptC d v c l.length = c2 at *
    generalize hzs : rdB d (P : Int) = zs at *
    clear hzs HRAW hS
    go_wp2_with fail
    refine HWR.out.mono ?_
    rintro e w7 ⟨rfl, hv7, hk7⟩
    have H7 := hid hv7
    have O7 := hid (own_keep O6.out fun x hx => hk7.2 x (.inr hx))
    have hver := cver_c (tc_c gd d2 gv v2) H7.out
    rw [HP2.out.ver, ← HJ.out.1] at hver
    have HVER := hid hver
    clear hv7 hk7 H6 O6 HWR hver e1 e2 e3
    go_wp2_with fail
    refine HVER.out.mono ?_
    rintro e w8 ⟨rfl, rfl⟩
    go_wp2_with fail
    refine HVER.out.mono ?_
    rintro e w8 ⟨rfl, rfl⟩
    clear HVER
    go_wp2_with fail
    refine (dread_on (tc_d gv v2 gc c2) H7.out (Q : Int)).mono ?_
    rintro e w8 ⟨A8, n8, k8, rfl, ho8, -, hb8⟩
    rw [(HP2.out.raw (k := Q) HJ.out.2.2.2.2.2).1]
    rw [HP3.out] at ho8
    have H8 := hid (On.row H7.out (TC.ok gd d2 gv v2 gc c2) hb8 ho8)
    have O8 := hid ho8
    have O78 := hid (own_keep O7.out fun x hx => hb8.block x (own_lt O7.out x hx))
    clear ho8 hb8 H7 O7 s1 s2 wj2
    go_wp2_with fail
    refine (get_on (C := fun P => P) (d := d2) (v := v2) (c := c2) Foc.self (fun _ h => h) H8.out (by have := HP2.out.ver; have := hj20.out; omega) HM3.out).mono ?_
    rintro e w9 ⟨A9, n9, k9, rfl, ho9, -, hb9⟩
    rw [HP4.out.1]
    rw [HP4.out.2] at ho9
    have H9 : Hid (On w (TC gd d2 gv v2 gc c2) w9 (fun _ => False)) := hid ((On.go H8.out (TC.ok gd d2 gv v2 gc c2) hb9).less fun _ hx => hx.elim)
    have q1 := own_str (c := k6) (own_keep O78.out fun x hx => hb9.block x (own_lt O78.out x hx))
    have q2 := own_str (c := k8) (own_keep O8.out fun x hx => hb9.block x (own_lt O8.out x hx))
    have q3 := own_str (c := k9) ho9
    have q4 := run_str (c := k) 44 9 5 Try.underlying44 Try.underlying5 Try.underlying9 (HBT.out.below H9.out.below (Nat.le_refl _))
    clear ho9 hb9 H8 O8 O78
    go_wp2_with fail
    clear q1 q2 q3 q4 HP3 HP4 HBT
    go_loopg [18] 3 (fun kk kv wq => ∃ (i : Nat), kv = .int .i64 (i : Int) ∧ Hid (kk = 5 - i) ∧ Hid (2 ≤ i ∧ i ≤ 5) ∧ Hid (On w (TC gd d2 gv v2 gc c2) wq (fun _ => False)))
    case atStart => exact ⟨2, rfl, hid (by omega), hid (by omega), H9⟩
    case round =>
    obtain ⟨i, rfl, hgi, hi, hVq⟩ := hrel
    clear H9
    rcases Nat.lt_or_ge i 5 with hlt | hge
    · have HLI := hid hlt
      have i3 : decide ((i : Int) < 5) = true := by simp; omega
      have i4 : decide (i < 5) = true := by simpa using hlt
      have wi : wrap64 ((i : Int) + 1) = ((i + 1 : Nat) : Int) := by unfold wrap64; omega
      have HR := hid (HP2.out.raw (k := i) hlt)
      have HVW := hid (HP2.out.vw i hi.out.1 hlt)
      clear hlt
      as_aux_lemma =>
      go_wp2_with fail
      refine (dread_on (tc_d gv v2 gc c2) hVq.out (i : Int)).mono ?_
      rintro e w10 ⟨A10, n10, k10, rfl, ho10, -, hb10⟩
      rw [HR.out.1]
      rw [HR.out.2, HVW.out] at ho10
      have hV10 : Hid (On w (TC gd d2 gv v2 gc c2) w10 (fun _ => False)) := hid (On.go hVq.out (TC.ok gd d2 gv v2 gc c2) hb10)
      have hb1 := Bts.own ho10
      have hlen : n10 = 16 := by have h1 := hb1.len; rw [pad_len L (by have h1 := HLT_.out.len; have h2 := HN1.out; omega)] at h1; exact h1.symm
      obtain ⟨_, _, hf10, hk10⟩ := own_form ho10
      injection hf10 with f1 _ f3
      subst f1 f3
      have ht1 : Bts w10 _ w10.heap.size A10 n1 ((pad L).take n1) := hb1.take (by have h2 := HN1.out; omega)
      have htk : (pad L).take n1 = L := by unfold pad; rw [List.take_append_of_le_length (by rw [HLT_.out.len]; exact Nat.le_refl _), List.take_of_length_le (by rw [HLT_.out.len]; exact Nat.le_refl _)]
      rw [htk] at ht1
      have HT1 := hid (ht1.wide (Nat.zero_le _) (Nat.le_refl _))
      have HT2 := hid (HLT_.out.below hV10.out.below (Nat.le_refl _))
      have k0 : (0 : Int) ≤ (n1 : Int) := by omega
      have k1 : (n1 : Int) ≤ (k10 : Int) := by have h2 := HN1.out; omega
      clear ho10 hb10 hb1 hk10 ht1 htk hVq HR HVW hlen
      go_wp2_with fail
      have hV10d : Hid (On w (TC gd d2 gv v2 gc c2) w10.drew (fun _ => False)) := hid (On.go hV10.out (TC.ok gd d2 gv v2 gc c2) ((Below.refl _ _).drew))
      have T1 : Hid (Bts w10.drew 0 w10.drew.heap.size A10 n1 L) := hid (HT1.out.keep (fun _ _ _ => rfl))
      have T2 : Hid (Bts w10.drew 0 w.heap.size A1 n1 L) := hid (HT2.out.keep (fun _ _ _ => rfl))
      clear hV10 HT1 HT2
      refine wp_region_held_drew (S := fun wx => Bts wx 0 w10.drew.heap.size A10 n1 L ∧ Bts wx 0 w.heap.size A1 n1 L) (by kernel_rfl) ⟨T1.out, T2.out⟩ (fun HS => ?_)
      generalize w10.drew = w11 at *
      refine wpAnyH_take (i := 0) (oi := ?oiz0) (v := ?vz0) ?hiz0 (by kernel_rfl) (by kernel_rfl) (by kernel_rfl) ?hQz0 ?hyz0 HS ?restz0
      case hiz0 => simp only [List.getElem?_toArray, List.getElem?_cons_zero]; exact rfl
      case hQz0 => exact fun _ _ _ h => h
      case hyz0 =>
        refine Or.inl ⟨by rfl, ?_⟩
        intro wS hSw
        go_simp
        try with_reducible rfl
      try simp only [Act.put, List.setIfInBounds_toArray, List.set_cons_zero, List.set_cons_succ]
      refine wpAnyH_take (i := 1) (oi := ?oiz1) (v := ?vz1) ?hiz1 (by kernel_rfl) (by kernel_rfl) (by kernel_rfl) ?hQz1 ?hyz1 HS ?restz1
      case hiz1 => simp only [List.getElem?_toArray, List.getElem?_cons_succ, List.getElem?_cons_zero]; exact rfl
      case hQz1 => exact fun _ _ _ h => h
      case hyz1 =>
        refine Or.inl ⟨by rfl, ?_⟩
        intro wS hSw
        go_simp
        try with_reducible rfl
      try simp only [Act.put, List.setIfInBounds_toArray, List.set_cons_zero, List.set_cons_succ]
      refine wpAnyH_take (i := 2) (oi := ?oiz2) (v := ?vz2) ?hiz2 (by kernel_rfl) (by kernel_rfl) (by kernel_rfl) ?hQz2 ?hyz2 HS ?restz2
      case hiz2 => simp only [List.getElem?_toArray, List.getElem?_cons_succ, List.getElem?_cons_zero]; exact rfl
      case hQz2 => exact fun _ _ _ h => h
      case hyz2 =>
        refine Or.inl ⟨by rfl, ?_⟩
        intro wS hSw
        go_simp
        try with_reducible rfl
      try simp only [Act.put, List.setIfInBounds_toArray, List.set_cons_zero, List.set_cons_succ]
      refine wpAnyH_take (i := 3) (oi := ?oiz3) (v := ?vz3) ?hiz3 (by kernel_rfl) (by kernel_rfl) (by kernel_rfl) ?hQz3 ?hyz3 HS ?restz3
      case hiz3 => simp only [List.getElem?_toArray, List.getElem?_cons_succ, List.getElem?_cons_zero]; exact rfl
      case hQz3 => exact fun _ _ _ h => h
      case hyz3 =>
        refine Or.inl ⟨by rfl, ?_⟩
        intro wS hSw
        go_simp
        try with_reducible rfl
      try simp only [Act.put, List.setIfInBounds_toArray, List.set_cons_zero, List.set_cons_succ]
      refine wpAnyH_take (i := 4) (oi := ?oiz4) (v := ?vz4) ?hiz4 (by kernel_rfl) (by kernel_rfl) (by kernel_rfl) ?hQz4 ?hyz4 HS ?restz4
      case hiz4 => simp only [List.getElem?_toArray, List.getElem?_cons_succ, List.getElem?_cons_zero]; exact rfl
      case hQz4 => exact fun _ _ _ h => h
      case hyz4 =>
        refine Or.inl ⟨by rfl, ?_⟩
        intro wS hSw
        have hcv := run_str (c := k10) 44 9 5 Try.underlying44 Try.underlying5 Try.underlying9 hSw.1
        go_simp
        try with_reducible rfl
      try simp only [Act.put, List.setIfInBounds_toArray, List.set_cons_zero, List.set_cons_succ]
      refine wpAnyH_take (i := 5) (oi := ?oiz5) (v := ?vz5) ?hiz5 (by kernel_rfl) (by kernel_rfl) (by kernel_rfl) ?hQz5 ?hyz5 HS ?restz5
      case hiz5 => simp only [List.getElem?_toArray, List.getElem?_cons_succ, List.getElem?_cons_zero]; exact rfl
      case hQz5 => exact fun _ _ _ h => h
      case hyz5 =>
        refine Or.inl ⟨by rfl, ?_⟩
        intro wS hSw
        go_simp
        try with_reducible rfl
      try simp only [Act.put, List.setIfInBounds_toArray, List.set_cons_zero, List.set_cons_succ]
      refine wpAnyH_take (i := 6) (oi := ?oiz6) (v := ?vz6) ?hiz6 (by kernel_rfl) (by kernel_rfl) (by kernel_rfl) ?hQz6 ?hyz6 HS ?restz6
      case hiz6 => simp only [List.getElem?_toArray, List.getElem?_cons_succ, List.getElem?_cons_zero]; exact rfl
      case hQz6 => exact fun _ _ _ h => h
      case hyz6 =>
        refine Or.inl ⟨by rfl, ?_⟩
        intro wS hSw
        have hcv := run_str (c := c1) 44 9 5 Try.underlying44 Try.underlying5 Try.underlying9 hSw.2
        go_simp
        try with_reducible rfl
      try simp only [Act.put, List.setIfInBounds_toArray, List.set_cons_zero, List.set_cons_succ]
      refine wpAnyH_take (i := 7) (oi := ?oiz7) (v := ?vz7) ?hiz7 (by kernel_rfl) (by kernel_rfl) (by kernel_rfl) ?hQz7 ?hyz7 HS ?restz7
      case hiz7 => simp only [List.getElem?_toArray, List.getElem?_cons_succ, List.getElem?_cons_zero]; exact rfl
      case hQz7 => exact fun _ _ _ h => h
      case hyz7 =>
        refine Or.inl ⟨by rfl, ?_⟩
        intro wS hSw
        go_simp
        try with_reducible rfl
      try simp only [Act.put, List.setIfInBounds_toArray, List.set_cons_zero, List.set_cons_succ]
      refine wpAnyH_done (by kernel_rfl) ?_ _
      clear HS
      go_wp2_with fail
      go_roundg (5 - (i + 1))
      case measure => have := hgi.out; have := HLI.out; omega
      case rel => exact ⟨i + 1, congrArg (Value.int .i64) (by first | exact wi | omega | rfl), hid rfl, hid (by have := HLI.out; have := hi.out; omega), hV10d⟩
    · have i3 : decide ((i : Int) < 5) = false := by simp; omega
      have i4 : decide (i < 5) = false := by simp; omega
      clear hge
      as_aux_lemma =>
      go_wp2_with fail
      go_roundg (n0 - (j + 1))
      case measure => have := hgk.out; have := HLT.out; omega
      case rel => exact ⟨j + 1, d2, v2, c2, l, congrArg (Value.int .i64) (wj.trans (congrArg (fun q : Nat => (q : Int)) HJ.out.1)), hid rfl, hid (by have := HLT.out; omega), hid (by have := H20.out.1; omega), HP2, HM3, hVq⟩
  · have j3 : decide ((j : Int) < (n0 : Int)) = false := by simp; omega
    have j4 : decide (j < n0) = false := by simp; omega
    have HBX := hid hV.out.below
    have hwt := dwaiting_on (tc_d gv v gc c) hV.out
    have HWT := hid hwt
    clear hwt
    rcases Nat.eq_zero_or_pos d.W.length with hz | hz
    · rw [hz] at HWT
      clear hz hge hV hS
      as_aux_lemma =>
      go_wp2_with fail
      refine HWT.out.mono ?_
      rintro e w5 ⟨rfl, rfl⟩
      go_wp2
      go_ret
      exact ⟨rfl, HBX.out⟩
    · have hj0 : j = 0 := by
        rcases Nat.eq_zero_or_pos j with e | e
        · exact e
        · rw [hS.out.W e] at hz; exact absurd hz (by decide)
      have hn00 : n0 = 0 := by omega
      subst hn00
      generalize d.W.length = Q at *
      have q1 : ((Q : Int) == 0) = false := by simp; omega
      have q2 : (Q == 0) = false := by simp; omega
      have q3 : decide ((Q : Int) = 0) = false := by simp; omega
      clear hz hge hV hS hj0
      as_aux_lemma =>
      go_wp2_with fail
      refine HWT.out.mono ?_
      rintro e w5 ⟨rfl, rfl⟩
      go_wp2
      go_ret
      exact ⟨rfl, HBX.out⟩
end Go.Proofs.Ytocmgdhgimpfhaa
