/- What strongroomref09.Key and Right return. Nothing is assumed. -/
import Derived.Test.YtdkbpjkoiegflaaGreatRsW
import Derived.Test.YtdkbpjkoiegflaaGreatStSame
namespace Go.Proofs.YtdkbpjkoiegflaaGreat
open Go.RowKit

set_option maxRecDepth 100000 in
set_option maxHeartbeats 4000000 in
theorem rkey_c (k : Ky) (w : World) : Calls Tryz.prog 83 #[.agg #[.int .i64 k.t, .int .i64 k.c, .int .i64 k.e]] w fun e w' => e = .returned (.bool (decide k.right)) ∧ Below w.heap.size w w' := by
  have HB : Hid (Below w.heap.size w (w.alloc (.cells #[.int .i64 k.t, .int .i64 k.c, .int .i64 k.e] 54))) := hid ((Below.refl _ _).alloc (Nat.le_refl _) _)
  have hk := Blk.new w 54 #[.int .i64 k.t, .int .i64 k.c, .int .i64 k.e]
  have c0 := (hk.cell 0).trans rfl
  have c1 := (hk.cell 1).trans rfl
  have c2 := (hk.cell 2).trans rfl
  clear hk
  by_cases h0 : 0 ≤ k.t
  · have e0 : decide ((0 : Int) ≤ k.t) = true := decide_eq_true h0
    by_cases h1 : 0 ≤ k.c
    · have e1 : decide ((0 : Int) ≤ k.c) = true := decide_eq_true h1
      by_cases h2 : 0 ≤ k.e
      · have e2 : decide ((0 : Int) ≤ k.e) = true := decide_eq_true h2
        have HF : Hid (decide k.right = true) := hid (decide_eq_true (by unfold Ky.right; omega))
        clear h0 h1 h2
        go_enter Tryz.func83, Tryz.ntmps83
        go_wp2
        go_ret
        exact ⟨by rw [HF.out]; rfl, HB.out⟩
      · have e2 : decide ((0 : Int) ≤ k.e) = false := decide_eq_false h2
        have HF : Hid (decide k.right = false) := hid (decide_eq_false (by unfold Ky.right; omega))
        clear h0 h1 h2
        go_enter Tryz.func83, Tryz.ntmps83
        go_wp2
        go_ret
        exact ⟨by rw [HF.out]; rfl, HB.out⟩
    · have e1 : decide ((0 : Int) ≤ k.c) = false := decide_eq_false h1
      have HF : Hid (decide k.right = false) := hid (decide_eq_false (by unfold Ky.right; omega))
      clear h0 h1
      go_enter Tryz.func83, Tryz.ntmps83
      go_wp2
      go_ret
      exact ⟨by rw [HF.out]; rfl, HB.out⟩
  · have e0 : decide ((0 : Int) ≤ k.t) = false := decide_eq_false h0
    have HF : Hid (decide k.right = false) := hid (decide_eq_false (by unfold Ky.right; omega))
    clear h0
    go_enter Tryz.func83, Tryz.ntmps83
    go_wp2
    go_ret
    exact ⟨by rw [HF.out]; rfl, HB.out⟩
set_option maxRecDepth 100000 in
theorem rs_eqk (a b : Ky) (wx : World) : (Op.equalIn 10000 54 (.agg #[.int .i64 a.t, .int .i64 a.c, .int .i64 a.e]) (.agg #[.int .i64 b.t, .int .i64 b.c, .int .i64 b.e])).run Tryz.prog wx = .ok (decide (a = b)) wx := by
  obtain ⟨a1, a2, a3⟩ := a
  obtain ⟨b1, b2, b3⟩ := b
  go_simp
  by_cases h1 : a1 = b1
  · subst h1
    by_cases h2 : a2 = b2
    · subst h2
      by_cases h3 : a3 = b3
      · subst h3; simp
      · simp [h3]
    · simp [h2]
  · simp [h1]
theorem rr_take {l : List Bb} {j : Nat} (hj : j < l.length) (h : (∀ k, ∀ h2 : k < l.length, k < j → bbOk l[k]) ∧ (l.take j).Pairwise (fun y x => y.b ≠ x.b ∧ risen y x)) (hx : bbOk l[j]) (hy : ∀ k, ∀ h2 : k < l.length, k < j → l[k].b ≠ l[j].b ∧ risen l[k] l[j]) :
    (∀ k, ∀ h2 : k < l.length, k < j + 1 → bbOk l[k]) ∧ (l.take (j + 1)).Pairwise (fun y x => y.b ≠ x.b ∧ risen y x) := by
  refine ⟨fun k h2 h3 => ?_, ?_⟩
  · by_cases e : k = j
    · subst e; exact hx
    · exact h.1 k h2 (by omega)
  · rw [List.take_succ_eq_append_getElem hj, List.pairwise_append]
    refine ⟨h.2, List.pairwise_singleton _ _, fun y hy2 z hz => ?_⟩
    rw [List.mem_singleton] at hz
    subst hz
    obtain ⟨k, hk, rfl⟩ := List.mem_take_iff_getElem.1 hy2
    exact hy k (by omega) (by omega)
theorem rr_all {l : List Bb} {n : Nat} (hn : l.length = n) (h : (∀ k, ∀ h2 : k < l.length, k < n → bbOk l[k]) ∧ (l.take n).Pairwise (fun y x => y.b ≠ x.b ∧ risen y x)) : decide (Rgt l) = decide (n ≤ 1000) := by
  refine decide_eq_decide.2 ⟨fun h2 => by rw [← hn]; exact h2.2.2, fun h2 => ⟨fun x hx => ?_, ?_, by rw [hn]; exact h2⟩⟩
  · obtain ⟨k, hk, rfl⟩ := List.mem_iff_getElem.1 hx
    exact h.1 k hk (by omega)
  · have := h.2
    rwa [List.take_of_length_le (Nat.le_of_eq hn)] at this
theorem rr_bad {l : List Bb} {j : Nat} (hj : j < l.length) (h : ¬ bbOk l[j]) : decide (Rgt l) = false := decide_eq_false fun e => h (e.1 _ (List.getElem_mem hj))
theorem rr_pair {l : List Bb} {k j : Nat} (hj : j < l.length) (h2 : k < l.length) (hk : k < j) (h : ¬ (l[k].b ≠ l[j].b ∧ risen l[k] l[j])) : decide (Rgt l) = false := decide_eq_false fun e => h ((List.pairwise_iff_getElem.1 e.2.1) k j h2 hj hk)
set_option maxRecDepth 100000 in
set_option maxHeartbeats 16000000 in
theorem rsright_c (A : Option Addr) (n c : Nat) (l : List Bb) (w : World) (h : BSl w w.heap.size A n l) (hc : n ≤ c) (hn : n ≤ 100000) (hnm : ∀ x ∈ l, x.nm.length ≤ maxLen) :
    Calls Tryz.prog 41 #[.slice A n c] w fun e w' => e = .returned (.bool (decide (Rgt l))) ∧ Below w.heap.size w w' := by
  have HL := hid h
  have HN := hid (And.intro hn hc)
  have HLN := hid h.1
  have HNM := hid hnm
  clear h hn hc hnm
  go_enter Tryz.func41, Tryz.ntmps41
  go_wp2_with fail
  go_loopg [9] n (fun kk iv wr => ∃ j : Nat, iv = .int .i64 (j : Int) ∧ Hid (kk = n - j) ∧ Hid (j ≤ n) ∧ Hid ((∀ k, ∀ h2 : k < l.length, k < j → bbOk l[k]) ∧ (l.take j).Pairwise (fun y x => y.b ≠ x.b ∧ risen y x)) ∧ Hid (Below w.heap.size w wr))
  case atStart => exact ⟨0, rfl, hid rfl, hid (Nat.zero_le _), hid ⟨fun k _ h3 => absurd h3 (Nat.not_lt_zero k), List.Pairwise.nil⟩, hid (Below.refl _ _)⟩
  case round =>
    obtain ⟨j, rfl, hgk, hj, hP, hB⟩ := hrel
    rename World => wr
    rcases Nat.lt_or_ge j n with hlt | hge
    · have HJ := hid hlt
      have hjl : j < l.length := by rw [HLN.out]; exact hlt
      have HJL := hid hjl
      have j1 : (0 : Int) ≤ (j : Int) := Int.natCast_nonneg j
      have j2 : (j : Int) < (n : Int) := Int.ofNat_lt.2 hlt
      have j3 : decide ((j : Int) < (n : Int)) = true := decide_eq_true j2
      have j4 : decide (j < n) = true := decide_eq_true hlt
      have j5 : (j : Int) ≤ (c : Int) := Int.ofNat_le.2 (Nat.le_trans (Nat.le_of_lt hlt) HN.out.2)
      have j6 : j ≤ c := Nat.le_trans (Nat.le_of_lt hlt) HN.out.2
      have wj : wrap64 ((j : Int) + 1) = ((j + 1 : Nat) : Int) := rs_w HN.out.1 hlt
      obtain ⟨b, off, rfl, hbl, hr⟩ := HL.out.2 j hjl
      have HBL := hid hbl
      have HBAD := hid (rr_bad (l := l) hjl)
      have HTAKE := hid (rr_take hjl hP.out)
      have HPAIR := hid (fun (k : Nat) (h2 : k < l.length) (hk : k < j) => rr_pair (l := l) hjl h2 hk)
      have HNMX := hid (HNM.out _ (List.getElem_mem hjl))
      generalize hxl : l[j] = x at *
      clear hxl
      obtain ⟨c0, c1, c2, c3, c4, c5, c6, c7, c8, c9, c10⟩ := range11 (rangeAt_keep hr (hB.out.block b hbl))
      have HBX := hid (Blk.new wr 90 #[.string (str (x).nm), .int .i64 (x).k.t, .int .i64 (x).k.c, .int .i64 (x).k.e, .int .i64 (x).b, .int .i64 (x).p.k.t, .int .i64 (x).p.k.c, .int .i64 (x).p.k.e, .int .i64 (x).p.id, .int .i64 (x).p.ver, .int .i64 (x).sz])
      have hbx : Below wr.heap.size wr (wr.alloc (.cells #[.string (str (x).nm), .int .i64 (x).k.t, .int .i64 (x).k.c, .int .i64 (x).k.e, .int .i64 (x).b, .int .i64 (x).p.k.t, .int .i64 (x).p.k.c, .int .i64 (x).p.k.e, .int .i64 (x).p.id, .int .i64 (x).p.ver, .int .i64 (x).sz] 90)) := (Below.refl _ _).alloc (Nat.le_refl _) _
      have HB2 : Hid (Below w.heap.size w (wr.alloc (.cells #[.string (str (x).nm), .int .i64 (x).k.t, .int .i64 (x).k.c, .int .i64 (x).k.e, .int .i64 (x).b, .int .i64 (x).p.k.t, .int .i64 (x).p.k.c, .int .i64 (x).p.k.e, .int .i64 (x).p.id, .int .i64 (x).p.ver, .int .i64 (x).sz] 90))) := hid (hB.out.trans (hbx.mono hB.out.size))
      obtain ⟨x0, x1, x2, x3, x4, x5, x6, x7, x8, x9, x10⟩ := bbB_cells (x := x) HBX.out
      clear hlt hjl hbl hr hbx
      go_wp2_with fail
      clear c0 c1 c2 c3 c4 c5 c6 c7 c8 c9 c10
      refine (rname_c x.nm HNMX.out _).mono ?_
      rintro e w0 ⟨rfl, rfl⟩
      by_cases hb0 : nmOk x.nm
      · rw [decide_eq_true hb0]
        have HK0 := hid hb0
        clear hb0
        go_wp2_with fail
        refine (rkey_c x.k _).mono ?_
        rintro e w3 ⟨rfl, hb3⟩
        have HB3 := hid (HB2.out.trans (hb3.mono HB2.out.size))
        have HBX3 := hid (HBX.out.keep (hb3.block _ HBX.out.lt))
        clear hb3 x0 x1 x2 x3 x4 x5 x6 x7 x8 x9 x10 HB2 HBX
        obtain ⟨x0, x1, x2, x3, x4, x5, x6, x7, x8, x9, x10⟩ := bbB_cells (x := x) HBX3.out
        by_cases hb1 : x.k.right
        · rw [decide_eq_true hb1]
          have HK1 := hid hb1
          clear hb1
          obtain ⟨q, hq⟩ : ∃ q, q = decide (x.p.k = x.k) := ⟨_, rfl⟩
          have heq : ∀ wx : World, (Op.equalIn 10000 54 (.agg #[.int .i64 x.p.k.t, .int .i64 x.p.k.c, .int .i64 x.p.k.e]) (.agg #[.int .i64 x.k.t, .int .i64 x.k.c, .int .i64 x.k.e])).run Tryz.prog wx = .ok q wx := fun wx => by rw [hq]; exact rs_eqk x.p.k x.k wx
          have HQ := hid hq
          clear hq
          cases q with
          | false =>
            have HD := hid (HBAD.out fun e => absurd e.2.2.1 (of_decide_eq_false HQ.out.symm))
            go_wp2
            go_ret
            exact ⟨by rw [HD.out]; rfl, HB3.out⟩
          | true =>
            by_cases g0 : x.p.id < 0
            · have f0 : decide (x.p.id < 0) = true := decide_eq_true g0
              have HD := hid (HBAD.out fun e => absurd g0 (Int.not_lt.2 e.2.2.2.1))
              clear g0
              go_wp2
              go_ret
              exact ⟨by rw [HD.out]; rfl, HB3.out⟩
            have f0 : decide (x.p.id < 0) = false := decide_eq_false g0
            by_cases g1 : x.p.ver < 0
            · have f1 : decide (x.p.ver < 0) = true := decide_eq_true g1
              have HD := hid (HBAD.out fun e => absurd g1 (Int.not_lt.2 e.2.2.2.2.1))
              clear g0 g1
              go_wp2
              go_ret
              exact ⟨by rw [HD.out]; rfl, HB3.out⟩
            have f1 : decide (x.p.ver < 0) = false := decide_eq_false g1
            by_cases g2 : x.sz < 0
            · have f2 : decide (x.sz < 0) = true := decide_eq_true g2
              have HD := hid (HBAD.out fun e => absurd g2 (Int.not_lt.2 e.2.2.2.2.2.1))
              clear g0 g1 g2
              go_wp2
              go_ret
              exact ⟨by rw [HD.out]; rfl, HB3.out⟩
            have f2 : decide (x.sz < 0) = false := decide_eq_false g2
            by_cases g3 : 65536 < x.sz
            · have f3 : decide (65536 < x.sz) = true := decide_eq_true g3
              have HD := hid (HBAD.out fun e => absurd g3 (Int.not_lt.2 e.2.2.2.2.2.2.1))
              clear g0 g1 g2 g3
              go_wp2
              go_ret
              exact ⟨by rw [HD.out]; rfl, HB3.out⟩
            have f3 : decide (65536 < x.sz) = false := decide_eq_false g3
            by_cases g4 : x.b < 2
            · have f4 : decide (x.b < 2) = true := decide_eq_true g4
              have HD := hid (HBAD.out fun e => absurd g4 (Int.not_lt.2 e.2.2.2.2.2.2.2.1))
              clear g0 g1 g2 g3 g4
              go_wp2
              go_ret
              exact ⟨by rw [HD.out]; rfl, HB3.out⟩
            have f4 : decide (x.b < 2) = false := decide_eq_false g4
            by_cases g5 : 4095 < x.b
            · have f5 : decide (4095 < x.b) = true := decide_eq_true g5
              have HD := hid (HBAD.out fun e => absurd g5 (Int.not_lt.2 e.2.2.2.2.2.2.2.2))
              clear g0 g1 g2 g3 g4 g5
              go_wp2
              go_ret
              exact ⟨by rw [HD.out]; rfl, HB3.out⟩
            have f5 : decide (4095 < x.b) = false := decide_eq_false g5
            have HOKX : Hid (bbOk x) := hid ⟨HK0.out, HK1.out, of_decide_eq_true HQ.out.symm, Int.not_lt.1 g0, Int.not_lt.1 g1, Int.not_lt.1 g2, Int.not_lt.1 g3, Int.not_lt.1 g4, Int.not_lt.1 g5⟩
            clear g0 g1 g2 g3 g4 g5
            go_wp2_with fail
            go_loopg [68] j (fun k2 iv wq => ∃ k : Nat, iv = .int .i64 (k : Int) ∧ Hid (k2 = j - k) ∧ Hid (k ≤ j) ∧ Hid (∀ k', ∀ h2 : k' < l.length, k' < k → l[k'].b ≠ x.b ∧ risen l[k'] x) ∧ Hid (Below w.heap.size w wq) ∧ Hid (Blk wq wr.heap.size 90 #[.string (str (x).nm), .int .i64 (x).k.t, .int .i64 (x).k.c, .int .i64 (x).k.e, .int .i64 (x).b, .int .i64 (x).p.k.t, .int .i64 (x).p.k.c, .int .i64 (x).p.k.e, .int .i64 (x).p.id, .int .i64 (x).p.ver, .int .i64 (x).sz]))
            case atStart => exact ⟨0, rfl, hid rfl, hid (Nat.zero_le _), hid (fun k' _ h3 => absurd h3 (Nat.not_lt_zero k')), HB3, HBX3⟩
            case round =>
            obtain ⟨k, rfl, hgk2, hk, hY, hB4, hX4⟩ := hrel
            clear HB3 HBX3 x0 x1 x2 x3 x4 x5 x6 x7 x8 x9 x10
            rename World => wq
            rcases Nat.lt_or_ge k j with hlt2 | hge2
            · have HKJ := hid hlt2
              have hkl : k < l.length := Nat.lt_trans hlt2 HJL.out
              have HKL := hid hkl
              have k1 : (0 : Int) ≤ (k : Int) := Int.natCast_nonneg k
              have k2 : (k : Int) < (j : Int) := Int.ofNat_lt.2 hlt2
              have k3 : decide ((k : Int) < (j : Int)) = true := decide_eq_true k2
              have k4 : decide (k < j) = true := decide_eq_true hlt2
              have wk : wrap64 ((k : Int) + 1) = ((k + 1 : Nat) : Int) := rs_w HN.out.1 (Nat.lt_trans hlt2 HJ.out)
              obtain ⟨b2, off2, hbe, hbl2, hr2⟩ := HL.out.2 k hkl
              injection hbe with hbe
              injection hbe with h1 h2 _
              subst h1 h2
              have HPR := hid (HPAIR.out k hkl hlt2)
              have HYS : Hid ((l[k].b ≠ x.b ∧ risen l[k] x) → ∀ k', ∀ h2 : k' < l.length, k' < k + 1 → l[k'].b ≠ x.b ∧ risen l[k'] x) := hid (fun hh k' h2 h3 => by
                by_cases e : k' = k
                · subst e; exact hh
                · exact hY.out k' h2 (by omega))
              generalize l[k] = y at *
              obtain ⟨c0, c1, c2, c3, c4, c5, c6, c7, c8, c9, c10⟩ := range11 (rangeAt_keep hr2 (hB4.out.block _ hbl2))
              have HBY := hid (Blk.new wq 90 #[.string (str (y).nm), .int .i64 (y).k.t, .int .i64 (y).k.c, .int .i64 (y).k.e, .int .i64 (y).b, .int .i64 (y).p.k.t, .int .i64 (y).p.k.c, .int .i64 (y).p.k.e, .int .i64 (y).p.id, .int .i64 (y).p.ver, .int .i64 (y).sz])
              have hby : Below wq.heap.size wq (wq.alloc (.cells #[.string (str (y).nm), .int .i64 (y).k.t, .int .i64 (y).k.c, .int .i64 (y).k.e, .int .i64 (y).b, .int .i64 (y).p.k.t, .int .i64 (y).p.k.c, .int .i64 (y).p.k.e, .int .i64 (y).p.id, .int .i64 (y).p.ver, .int .i64 (y).sz] 90)) := (Below.refl _ _).alloc (Nat.le_refl _) _
              have HB5 : Hid (Below w.heap.size w (wq.alloc (.cells #[.string (str (y).nm), .int .i64 (y).k.t, .int .i64 (y).k.c, .int .i64 (y).k.e, .int .i64 (y).b, .int .i64 (y).p.k.t, .int .i64 (y).p.k.c, .int .i64 (y).p.k.e, .int .i64 (y).p.id, .int .i64 (y).p.ver, .int .i64 (y).sz] 90))) := hid (hB4.out.trans (hby.mono hB4.out.size))
              have HX5 := hid (hX4.out.keep (hby.block _ hX4.out.lt))
              obtain ⟨y0, y1, y2, y3, y4, y5, y6, y7, y8, y9, y10⟩ := bbB_cells (x := y) HBY.out
              have x0 : (wq.alloc (.cells #[.string (str (y).nm), .int .i64 (y).k.t, .int .i64 (y).k.c, .int .i64 (y).k.e, .int .i64 (y).b, .int .i64 (y).p.k.t, .int .i64 (y).p.k.c, .int .i64 (y).p.k.e, .int .i64 (y).p.id, .int .i64 (y).p.ver, .int .i64 (y).sz] 90)).cell? ⟨wr.heap.size, 0, none⟩ = some (.string (str x.nm)) := (HX5.out.cell 0).trans rfl
              have x4 : (wq.alloc (.cells #[.string (str (y).nm), .int .i64 (y).k.t, .int .i64 (y).k.c, .int .i64 (y).k.e, .int .i64 (y).b, .int .i64 (y).p.k.t, .int .i64 (y).p.k.c, .int .i64 (y).p.k.e, .int .i64 (y).p.id, .int .i64 (y).p.ver, .int .i64 (y).sz] 90)).cell? ⟨wr.heap.size, 4, none⟩ = some (.int .i64 x.b) := (HX5.out.cell 4).trans rfl
              have s1 := str_list x.nm
              have s2 := str_list y.nm
              clear hlt2 hkl hbl2 hr2 hby
              by_cases hbb : y.b = x.b
              · have d0 : (y.b == x.b) = true := by rw [hbb]; exact beq_self_eq_true _
                have HD := hid (HPR.out fun e => e.1 hbb)
                clear hbb
                go_wp2
                go_ret
                exact ⟨by rw [HD.out]; rfl, HB5.out⟩
              · have d0 : (y.b == x.b) = false := beq_eq_false_iff_ne.2 hbb
                have HNB := hid hbb
                clear hbb
                cases hyx : Op.bytesLess y.nm x.nm with
                | true =>
                  have d1 : Op.bytesLess x.nm y.nm = false := less_turn hyx
                  have d2 : (y.nm == x.nm) = false := by simpa using less_ne hyx
                  have d3 : (x.nm == y.nm) = false := by simpa using (less_ne hyx).symm
                  have HY2 := hid (HYS.out ⟨HNB.out, hyx⟩)
                  go_wp2_with fail
                  go_roundg (j - (k + 1))
                  case measure => exact rs_meas hgk2.out HKJ.out
                  case rel => exact ⟨k + 1, by first | rfl | rw [wk], hid rfl, hid HKJ.out, HY2, HB5, HX5⟩
                | false =>
                  have HD := hid (HPR.out fun e => by have := e.2; unfold risen at this; rw [hyx] at this; cases this)
                  by_cases he : y.nm = x.nm
                  · have d1 : Op.bytesLess x.nm y.nm = false := by rw [he]; exact less_self _
                    have d2 : (y.nm == x.nm) = true := by rw [he]; exact beq_self_eq_true _
                    have d3 : (x.nm == y.nm) = true := by rw [he]; exact beq_self_eq_true _
                    clear he
                    go_wp2
                    go_ret
                    exact ⟨by rw [HD.out]; rfl, HB5.out⟩
                  · have d1 : Op.bytesLess x.nm y.nm = true := less_tri hyx he
                    have d2 : (y.nm == x.nm) = false := by simpa using he
                    have d3 : (x.nm == y.nm) = false := by simpa using fun e : x.nm = y.nm => he e.symm
                    clear he
                    go_wp2
                    go_ret
                    exact ⟨by rw [HD.out]; rfl, HB5.out⟩
            · have hkj : k = j := by have := hk.out; omega
              subst hkj
              have k2 : ¬ (k : Int) < (k : Int) := fun e => absurd e (Int.lt_irrefl _)
              have HT := hid (HTAKE.out HOKX.out (fun k' h2 h3 => hY.out k' h2 h3))
              clear hge2 hk hgk2
              go_wp2_with fail
              go_roundg (n - (k + 1))
              case measure => exact rs_meas hgk.out HJ.out
              case rel => exact ⟨k + 1, by first | rfl | rw [wj], hid rfl, hid HJ.out, HT, hB4⟩
        · rw [decide_eq_false hb1]
          have HD := hid (HBAD.out fun e => hb1 e.2.1)
          clear hb1
          go_wp2
          go_ret
          exact ⟨by rw [HD.out]; rfl, HB3.out⟩
      · rw [decide_eq_false hb0]
        have HD := hid (HBAD.out fun e => hb0 e.1)
        clear hb0
        go_wp2
        go_ret
        exact ⟨by rw [HD.out]; rfl, HB2.out⟩
    · have hjn : j = n := by have := hj.out; omega
      subst hjn
      have j2 : ¬ (j : Int) < (j : Int) := fun e => absurd e (Int.lt_irrefl _)
      have HD := hid (rr_all HLN.out hP.out)
      obtain ⟨q, hq⟩ : ∃ q, q = decide (j ≤ 1000) := ⟨_, rfl⟩
      have e1 : decide ((j : Int) ≤ 1000) = q := by rw [hq]; exact decide_eq_decide.2 ⟨fun h => by omega, fun h => by omega⟩
      have e2 : decide (j ≤ 1000) = q := hq.symm
      rw [e2] at HD
      clear hge hj hgk hq
      go_wp2
      go_ret
      exact ⟨by rw [HD.out]; rfl, hB.out⟩
end Go.Proofs.YtdkbpjkoiegflaaGreat
