/- What store.rightName, rightKey, rightBlob and readEntry return. Nothing is assumed. -/
import Derived.Test.YtdkbpjkoiegflaaGreatStDr
import Derived.Test.YtdkbpjkoiegflaaGreatPkW2
namespace Go.Proofs.YtdkbpjkoiegflaaGreat
open Go.RowKit

set_option maxRecDepth 100000 in
theorem rightName_c (nm : List UInt8) (w : World) : Calls Tryz.prog 87 #[.string (str nm)] w fun e w' => e = .returned (.bool (decide (nmOk nm))) ∧ w = w' := by
  have hs := str_size nm
  have HE : decide (nmOk nm) = (decide (1 ≤ nm.length) && decide (nm.length ≤ 40)) := by
    unfold nmOk
    cases nm with
    | nil => simp
    | cons a r => simp
  rw [HE]
  clear HE
  rw [← hs]
  generalize str nm = s at *
  clear hs
  by_cases h1 : 1 ≤ s.size
  · have e1 : decide (1 ≤ s.size) = true := by simpa using h1
    have e2 : decide (0 < s.size) = true := decide_eq_true (by omega)
    have e3 : decide ((1 : Int) ≤ (s.size : Int)) = true := decide_eq_true (by omega)
    have e4 : (1 : Int) ≤ (s.size : Int) := by omega
    rw [e1, Bool.true_and]
    go_enter Tryz.func87, Tryz.ntmps87
    by_cases h2 : s.size ≤ 40
    · have f1 : decide (s.size ≤ 40) = true := by simpa using h2
      have f2 : decide ((s.size : Int) ≤ 40) = true := by simp; omega
      have f3 : (s.size : Int) ≤ 40 := by omega
      rw [f1]
      go_wp2
      go_ret
      exact ⟨rfl, rfl⟩
    · have f1 : decide (s.size ≤ 40) = false := by simpa using h2
      have f2 : decide ((s.size : Int) ≤ 40) = false := by simp; omega
      have f3 : ¬ (s.size : Int) ≤ 40 := by omega
      rw [f1]
      go_wp2
      go_ret
      exact ⟨rfl, rfl⟩
  · have e1 : decide (1 ≤ s.size) = false := by simpa using h1
    have e2 : decide (0 < s.size) = false := decide_eq_false (by omega)
    have e3 : decide ((1 : Int) ≤ (s.size : Int)) = false := decide_eq_false (by omega)
    have e4 : ¬ (1 : Int) ≤ (s.size : Int) := by omega
    rw [e1, Bool.false_and]
    go_enter Tryz.func87, Tryz.ntmps87
    go_wp2
    go_ret
    exact ⟨rfl, rfl⟩
set_option maxRecDepth 100000 in
theorem rightKey_c (k : Ky) (w : World) : Calls Tryz.prog 88 #[(.agg #[.int .i64 (k).t, .int .i64 (k).c, .int .i64 (k).e])] w fun e w' => e = .returned (.bool (decide k.right)) ∧ Below w.heap.size w w' := by
  go_enter Tryz.func88, Tryz.ntmps88
  have HB : Hid (Below w.heap.size w (w.alloc (.cells #[.int .i64 k.t, .int .i64 k.c, .int .i64 k.e] 54))) := hid ((Below.refl _ _).alloc (Nat.le_refl _) _)
  by_cases h1 : 0 ≤ k.t
  · have e1 : decide (0 ≤ k.t) = true := by simpa using h1
    by_cases h2 : 0 ≤ k.c
    · have e2 : decide (0 ≤ k.c) = true := by simpa using h2
      have HE : Hid (decide k.right = decide (0 ≤ k.e)) := hid (by unfold Ky.right; simp [h1, h2])
      rw [HE.out]
      clear h1 h2 HE
      go_wp2
      go_ret
      exact ⟨rfl, HB.out⟩
    · have e2 : decide (0 ≤ k.c) = false := by simpa using h2
      have HE : Hid (decide k.right = false) := hid (by unfold Ky.right; simp [h2])
      rw [HE.out]
      clear h1 h2 HE
      go_wp2
      go_ret
      exact ⟨rfl, HB.out⟩
  · have e1 : decide (0 ≤ k.t) = false := by simpa using h1
    have HE : Hid (decide k.right = false) := hid (by unfold Ky.right; simp [h1])
    rw [HE.out]
    clear h1 HE
    go_wp2
    go_ret
    exact ⟨rfl, HB.out⟩
/-- What rightBlob asks. -/
def bbR (x : Bb) : Prop := nmOk x.nm ∧ x.k.right ∧ 2 ≤ x.b ∧ x.b < 4096 ∧ 0 ≤ x.p.id ∧ 0 ≤ x.p.ver ∧ 0 ≤ x.sz ∧ x.sz ≤ 65536
instance (x : Bb) : Decidable (bbR x) := inferInstanceAs (Decidable (_ ∧ _))
theorem bbR_ok {x : Bb} (h : x.p.k = x.k) : bbOk x ↔ bbR x := by
  unfold bbOk bbR
  constructor
  · rintro ⟨a, b, _, c, d, e, f, g, i⟩; exact ⟨a, b, g, by omega, c, d, e, f⟩
  · rintro ⟨a, b, g, i, c, d, e, f⟩; exact ⟨a, b, h, c, d, e, f, g, by omega⟩
set_option maxRecDepth 100000 in
set_option maxHeartbeats 4000000 in
theorem rightBlob_c (x : Bb) (w : World) : Calls Tryz.prog 117 #[(.agg #[.string (str (x).nm), .int .i64 (x).k.t, .int .i64 (x).k.c, .int .i64 (x).k.e, .int .i64 (x).b, .int .i64 (x).p.k.t, .int .i64 (x).p.k.c, .int .i64 (x).p.k.e, .int .i64 (x).p.id, .int .i64 (x).p.ver, .int .i64 (x).sz])] w fun e w' => e = .returned (.bool (decide (bbR x))) ∧ Below w.heap.size w w' := by
  have hb1 : Below w.heap.size w (w.alloc (.cells #[.string (str (x).nm), .int .i64 (x).k.t, .int .i64 (x).k.c, .int .i64 (x).k.e, .int .i64 (x).b, .int .i64 (x).p.k.t, .int .i64 (x).p.k.c, .int .i64 (x).p.k.e, .int .i64 (x).p.id, .int .i64 (x).p.ver, .int .i64 (x).sz] 90)) := (Below.refl _ _).alloc (Nat.le_refl _) _
  have hk1 := Blk.new w 90 #[.string (str (x).nm), .int .i64 (x).k.t, .int .i64 (x).k.c, .int .i64 (x).k.e, .int .i64 (x).b, .int .i64 (x).p.k.t, .int .i64 (x).p.k.c, .int .i64 (x).p.k.e, .int .i64 (x).p.id, .int .i64 (x).p.ver, .int .i64 (x).sz]
  have HB1 := hid hb1
  have HK1 := hid hk1
  obtain ⟨c0, c1, c2, c3, c4, c5, c6, c7, c8, c9, c10⟩ := bbB_cells (x := x) hk1
  clear hb1 hk1
  go_enter Tryz.func117, Tryz.ntmps117
  go_wp2_with fail
  refine (rightName_c x.nm _).mono ?_
  rintro e w' ⟨rfl, rfl⟩
  by_cases h1 : nmOk x.nm
  · rw [decide_eq_true h1]
    go_wp2_with fail
    refine (rightKey_c x.k _).mono ?_
    rintro e w2 ⟨rfl, hb2⟩
    clear c0 c1 c2 c3 c4 c5 c6 c7 c8 c9 c10
    obtain ⟨c0, c1, c2, c3, c4, c5, c6, c7, c8, c9, c10⟩ := bbB_cells (x := x) (HK1.out.keep (hb2.block _ HK1.out.lt))
    have HB2 := hid (HB1.out.trans (hb2.mono HB1.out.size))
    clear hb2 HB1 HK1
    by_cases h2 : x.k.right
    · rw [decide_eq_true h2]
      by_cases h3 : 2 ≤ x.b
      · have e3 : decide (2 ≤ x.b) = true := decide_eq_true h3
        by_cases h4 : x.b < 4096
        · have e4 : decide (x.b < 4096) = true := decide_eq_true h4
          by_cases h5 : 0 ≤ x.p.id
          · have e5 : decide (0 ≤ x.p.id) = true := decide_eq_true h5
            by_cases h6 : 0 ≤ x.p.ver
            · have e6 : decide (0 ≤ x.p.ver) = true := decide_eq_true h6
              by_cases h7 : 0 ≤ x.sz
              · have e7 : decide (0 ≤ x.sz) = true := decide_eq_true h7
                by_cases h8 : x.sz ≤ 65536
                · have e8 : decide (x.sz ≤ 65536) = true := decide_eq_true h8
                  have HF : Hid (decide (bbR x) = true) := hid (decide_eq_true ⟨h1, h2, h3, h4, h5, h6, h7, h8⟩)
                  clear h1 h2 h3 h4 h5 h6 h7 h8
                  go_wp2
                  go_ret
                  exact ⟨congrArg (fun b => Ending.returned (.bool b)) HF.out.symm, HB2.out⟩
                · have e8 : decide (x.sz ≤ 65536) = false := decide_eq_false h8
                  have HF : Hid (decide (bbR x) = false) := hid (decide_eq_false fun e => h8 e.2.2.2.2.2.2.2)
                  clear h1 h2 h3 h4 h5 h6 h7 h8
                  go_wp2
                  go_ret
                  exact ⟨congrArg (fun b => Ending.returned (.bool b)) HF.out.symm, HB2.out⟩
              · have e7 : decide (0 ≤ x.sz) = false := decide_eq_false h7
                have HF : Hid (decide (bbR x) = false) := hid (decide_eq_false fun e => h7 e.2.2.2.2.2.2.1)
                clear h1 h2 h3 h4 h5 h6 h7
                go_wp2
                go_ret
                exact ⟨congrArg (fun b => Ending.returned (.bool b)) HF.out.symm, HB2.out⟩
            · have e6 : decide (0 ≤ x.p.ver) = false := decide_eq_false h6
              have HF : Hid (decide (bbR x) = false) := hid (decide_eq_false fun e => h6 e.2.2.2.2.2.1)
              clear h1 h2 h3 h4 h5 h6
              go_wp2
              go_ret
              exact ⟨congrArg (fun b => Ending.returned (.bool b)) HF.out.symm, HB2.out⟩
          · have e5 : decide (0 ≤ x.p.id) = false := decide_eq_false h5
            have HF : Hid (decide (bbR x) = false) := hid (decide_eq_false fun e => h5 e.2.2.2.2.1)
            clear h1 h2 h3 h4 h5
            go_wp2
            go_ret
            exact ⟨congrArg (fun b => Ending.returned (.bool b)) HF.out.symm, HB2.out⟩
        · have e4 : decide (x.b < 4096) = false := decide_eq_false h4
          have HF : Hid (decide (bbR x) = false) := hid (decide_eq_false fun e => h4 e.2.2.2.1)
          clear h1 h2 h3 h4
          go_wp2
          go_ret
          exact ⟨congrArg (fun b => Ending.returned (.bool b)) HF.out.symm, HB2.out⟩
      · have e3 : decide (2 ≤ x.b) = false := decide_eq_false h3
        have HF : Hid (decide (bbR x) = false) := hid (decide_eq_false fun e => h3 e.2.2.1)
        clear h1 h2 h3
        go_wp2
        go_ret
        exact ⟨congrArg (fun b => Ending.returned (.bool b)) HF.out.symm, HB2.out⟩
    · rw [decide_eq_false h2]
      have HF : Hid (decide (bbR x) = false) := hid (decide_eq_false fun e => h2 e.2.1)
      clear h1 h2
      go_wp2
      go_ret
      exact ⟨congrArg (fun b => Ending.returned (.bool b)) HF.out.symm, HB2.out⟩
  · rw [decide_eq_false h1]
    have HB2 := HB1
    have HF : Hid (decide (bbR x) = false) := hid (decide_eq_false fun e => h1 e.1)
    clear h1
    go_wp2
    go_ret
    exact ⟨congrArg (fun b => Ending.returned (.bool b)) HF.out.symm, HB2.out⟩

end Go.Proofs.YtdkbpjkoiegflaaGreat
